import Derived.Test.YtfocdefchbnkpaaGreatDoorProN
import Derived.Test.YtfocdefchbnkpaaGreatDoorRefL
import Derived.Laws.Cover1
import Derived.Shelf.Strings.BuilderK
import Derived.Shelf.Small.Wraps
set_option maxRecDepth 100000
set_option maxHeartbeats 20000000
open Go renaming World->Ag,Calls->Am,Value->Aj,bodyPost_ret->Et,TypeId->Cs,heap_alloc_new->Bn,results->Hm
open Go.Ending renaming returned->Af
open Go.IntKind renaming i64->Ai
open Go.Lib renaming byteCells_append->Hl
open Go.Obj renaming cells->Ae
open Go.Proofs.YtfocdefchbnkpaaGreatDoor.R renaming str->Aa,size_eq->Cp
open Go.Sort renaming grow->Vt,alloc_eq_grow->Su,ltStr->Iy,ltInt->Mw,SWO->Vh,swo_ltStr->Hk,swo_ltInt->Nl
open Go.Value renaming int->O,string->I,bool->Av,slice->X,agg->Fe,tuple->Cm,pointer->Al
open Go.World renaming ownsRow_nil->Bk,grownBy_alloc->Ac
open Go.World.ownsRow renaming lt->An,cellAt->Ap,alloc->Ao
open List renaming length->Z
open Option renaming some->V,none->S
open Or renaming inr->Bf
open Prod renaming fst->Bq
open _root_ renaming List->A,UInt8->Ab,Int->Ak,ByteArray->As,Nat->Ad
namespace Go.Proofs.YtfocdefchbnkpaaGreatDoor
open Go.RowKit Tryz
def vW (a b:A Ab):Ak:=if qd a b then -1 else if a=b then 0 else 1
def tV (a b:Ak):Ak:=if a<b then -1 else if a=b then 0 else 1
theorem fc (x:As)(w:Ag):Am prog 211 #[I x] w fun e w'=>e=Af (Av false)/\w'=w:=by
 go_in;go_wp2;go_ret;exact⟨by simp,rfl⟩
theorem lu (x:Ak)(w:Ag):Am prog 213 #[O Ai x] w fun e w'=>e=Af (Av false)/\w'=w:=by
 go_in;go_wp2;go_ret;exact⟨by simp,rfl⟩
theorem zeX (x y:A Ab)(w:Ag):Am prog 152 #[I (Aa x),I (Aa y)] w fun e w'=>e=Af (O Ai (vW x y))/\w'=w:=by
 have c:=wk x y;have d:((Aa x).toList == (Aa y).toList)=decide (x=y):=by
  rw[Lib.toList_data,Lib.toList_data,R.str_toList,R.str_toList];by_cases h:x=y <;> simp[h]
 by_cases b:qd x y=true
 ·rw[b] at c
  have e:vW x y = -1:=by unfold vW;rw[Az b]
  generalize vW x y=r at*;subst e;go_in;go_wp2_with (go_at_call 211;refine(fc _ _).mono ?_;rintro e w' ⟨rfl,rfl⟩);go_ret;exact⟨rfl,rfl⟩
 ·rw[show qd x y=false by simpa using b] at c
  by_cases a:x=y
  ·have e:vW x y=0:=by unfold vW;rw[Aw b,Az a]
   rw[show decide (x=y)=true by simpa using a] at d;generalize vW x y=r at*;subst e;clear a;go_in;go_wp2_with (go_at_call 211;refine(fc _ _).mono ?_;rintro e w' ⟨rfl,rfl⟩);go_ret;exact⟨rfl,rfl⟩
  ·have e:vW x y=1:=by unfold vW;rw[Aw b,Aw a]
   rw[show decide (x=y)=false by simpa using a] at d;generalize vW x y=r at*;subst e;clear a;go_in;go_wp2_with (go_at_call 211;refine(fc _ _).mono ?_;rintro e w' ⟨rfl,rfl⟩);go_ret;exact⟨rfl,rfl⟩
theorem zeW (x y:Ak)(w:Ag):Am prog 155 #[O Ai x,O Ai y] w fun e w'=>e=Af (O Ai (tV x y))/\w'=w:=by
 go_in;go_wp2_with (go_at_call 213;refine(lu _ _).mono ?_;rintro e w' ⟨rfl,rfl⟩)
 all_goals
  go_ret;refine⟨?_,rfl⟩;unfold tV
  first|(rw[Az (by omega)];rfl)|(rw[Aw (by omega),Az (by omega)];rfl)|(rw[Aw (by omega),Aw (by omega)];rfl)
abbrev Sl3:=Option Addr×Ad×Ad
instance:Inhabited P.Hst:=⟨⟨[],[]⟩⟩
instance:Inhabited P.Rl:=⟨⟨0,[],[],[],[],[],[]⟩⟩
def encH (x:P.Hst×Sl3):A Aj:=[I (Aa x.1.name),X x.2.1 x.2.2.1 x.2.2.2]
def encR (x:P.Rl×Sl3×Sl3×Sl3×Sl3):A Aj:=[O Ai x.1.number,I (Aa x.1.path),X x.2.1.1 x.2.1.2.1 x.2.1.2.2,X x.2.2.1.1 x.2.2.1.2.1 x.2.2.1.2.2,I (Aa x.1.rep),X x.2.2.2.1.1 x.2.2.2.1.2.1 x.2.2.2.1.2.2,X x.2.2.2.2.1 x.2.2.2.2.2.1 x.2.2.2.2.2.2]
theorem zkN (b c:A Ab)(d f:Option Addr)(i j g h:Ad)(W:Ag):Am prog 151 #[Fe #[I (Aa b),X d i g],Fe #[I (Aa c),X f j h]] W fun e w'=>e=Af (O Ai (vW b c))/\∃q os',w'=Vt (W.drewN q) os':=by
 have a:=fun W'=>zeX b c W'
 generalize vW b c=r at a ⊢;go_in;go_wp2_with (go_at_call 152;refine(a _).mono ?_;rintro e w' ⟨rfl,rfl⟩);go_ret;exact⟨rfl,0,_,by rw[Su,Su,Go.Sort.grow_grow];rfl⟩
theorem zkO (x y:P.Rl×Sl3×Sl3×Sl3×Sl3)(W:Ag):Am prog 154 #[Fe (encR x).toArray,Fe (encR y).toArray] W fun e w'=>e=Af (O Ai (tV x.1.number y.1.number))/\∃q os',w'=Vt (W.drewN q) os':=by
 have a:=fun W'=>zeW x.1.number y.1.number W'
 generalize tV x.1.number y.1.number=r at a ⊢;show Am prog 154 #[Fe #[_,_,_,_,_,_,_],Fe #[_,_,_,_,_,_,_]] W _;go_in;go_wp2_with (go_at_call 155;refine(a _).mono ?_;rintro e w' ⟨rfl,rfl⟩);go_ret;exact⟨rfl,0,_,by rw[Su,Su,Go.Sort.grow_grow];rfl⟩
theorem PV.isAggH:∀w,(isAgg (Tryz.sortHost_ren.t 24)).run prog w = .ok true w:=fun w=>by kernel_rfl
theorem PV.sizeH:∀w,(Go.sizeOf (Tryz.sortHost_ren.t 24)).run prog w = .ok 2 w:=fun w=>by kernel_rfl
theorem PV.isAggR:∀w,(isAgg (Tryz.sortRule_ren.t 24)).run prog w = .ok true w:=fun w=>by kernel_rfl
theorem PV.sizeR:∀w,(Go.sizeOf (Tryz.sortRule_ren.t 24)).run prog w = .ok 7 w:=fun w=>by kernel_rfl
theorem PV.enterH:∀args w,(callFunc 151 args).run prog w = .ok (.enter 151 args) w:=enters_of func151 (by kernel_rfl) rfl
theorem PV.enterR:∀args w,(callFunc 154 args).run prog w = .ok (.enter 154 args) w:=enters_of func154 (by kernel_rfl) rfl
def cfH (x y:P.Hst×Sl3):Ak:=vW x.1.name y.1.name
def cfR (x y:P.Rl×Sl3×Sl3×Sl3×Sl3):Ak:=tV x.1.number y.1.number
theorem zhO:Go.Proofs.ltOf cfH=fun x y=>Iy x.1.name y.1.name:=by
 funext x y;unfold Go.Proofs.ltOf cfH vW Iy qd
 rw[bytesLess_eq]
 grind[cfH,vW,qd,Bool.false_eq_true]
theorem zhP:Go.Proofs.ltOf cfR=fun x y=>Mw x.1.number y.1.number:=by
 funext x y;unfold Go.Proofs.ltOf cfR tV Mw
 grind[cfR,tV]
theorem zm7:Vh (Go.Proofs.ltOf cfH):=by
 rw[zhO];exact⟨fun x=>Hk.irrefl _,fun x y z=>Hk.trans _ _ _,fun x y z=>Hk.ntrans _ _ _⟩
theorem zm8:Vh (Go.Proofs.ltOf cfR):=by
 rw[zhP];exact⟨fun x=>Nl.irrefl _,fun x y z=>Nl.trans _ _ _,fun x y z=>Nl.ntrans _ _ _⟩
variable {w a b:Ag}{B g d:Ad}
abbrev Fz0 (a b c):=X (V ⟨b,0,S⟩) a c
theorem zfK {b:Ad}(d:A (P.Hst×Sl3))(h:w.ownsRow B 146 2 (Fz0 (Z d) g b) (Z d) (d.map encH).flatten)(r:Z d<=12):Am prog 150 #[X (V ⟨g,0,S⟩) (Z d) b,.func (.func 151) #[] #[]] w fun e w'=>e=Af (Cm #[])/\∃c:A (P.Hst×Sl3),c.Perm d/\c.Pairwise (fun x y=>Iy y.1.name x.1.name=false)/\w.grownBy w' (V g)/\w'.ownsRow B 146 2 (Fz0 (Z d) g b) (Z d) (c.map encH).flatten:=by
 have k:g<w.heap.size:=(An h g rfl).2;have q:=bZ encH 2 (fun _=>rfl) d h;have a:=AnyQ.slices_SortFunc_small_sorted Tryz.sortHost 2 PV.isAggH PV.sizeH encH (fun _=>rfl) (fun x v hv=>by simp[encH] at hv;rcases hv with rfl|rfl <;> rfl) cfH 151 #[] zm7 g 0 b d.toArray w PV.enterH (fun _ _ _ _ x y=>zkN x.1.name y.1.name _ _ _ _ _ _ _) q k (by simpa using r) Tryz.hlen
 change Am prog 150 _ _ _ at a
 rw[List.size_toArray] at a;refine a.mono ?_;rintro e w' ⟨rfl,c,n,t,l,s,rfl⟩;refine⟨rfl,c.toList,?_,?_,gN _ _ _ _ _ _ _,?_⟩
 ·have:=l.2.2
  have f:=l.1;simp at this f;rw[<-f,Cc (by simp)] at this;exact this
 ·rw[Vk]
  intro i j o p m;have f:=l.1;simp at f o p;have:=s i j (Ax _) m (by omega);rw[zhO,Sc c i o,Sc c j p] at this
  simpa using this
 ·have f:=l.1
  simp at f;have:=nr encH 2 (fun _=>rfl) d c.toList (by simpa using f) n t h
  simpa using this
theorem zfL {b:Ad}(d:A (P.Rl×Sl3×Sl3×Sl3×Sl3))(h:w.ownsRow B 213 7 (Fz0 (Z d) g b) (Z d) (d.map encR).flatten)(r:Z d<=12):Am prog 153 #[X (V ⟨g,0,S⟩) (Z d) b,.func (.func 154) #[] #[]] w fun e w'=>e=Af (Cm #[])/\∃c:A (P.Rl×Sl3×Sl3×Sl3×Sl3),c.Perm d/\c.Pairwise (fun x y=>Mw y.1.number x.1.number=false)/\w.grownBy w' (V g)/\w'.ownsRow B 213 7 (Fz0 (Z d) g b) (Z d) (c.map encR).flatten:=by
 have k:g<w.heap.size:=(An h g rfl).2;have q:=bZ encR 7 (fun _=>rfl) d h;have a:=AnyQ.slices_SortFunc_small_sorted Tryz.sortRule 7 PV.isAggR PV.sizeR encR (fun _=>rfl) (fun x v hv=>by simp[encR] at hv;rcases hv with rfl|rfl|rfl|rfl|rfl|rfl|rfl <;> rfl) cfR 154 #[] zm8 g 0 b d.toArray w PV.enterR (fun _ _ _ _ x y=>zkO x y _) q k (by simpa using r) Tryz.hlen
 change Am prog 153 _ _ _ at a
 rw[List.size_toArray] at a;refine a.mono ?_;rintro e w' ⟨rfl,c,n,t,l,s,rfl⟩;refine⟨rfl,c.toList,?_,?_,gN _ _ _ _ _ _ _,?_⟩
 ·have:=l.2.2
  have f:=l.1;simp at this f;rw[<-f,Cc (by simp)] at this;exact this
 ·rw[Vk]
  intro i j o p m;have f:=l.1;simp at f o p;have:=s i j (Ax _) m (by omega);rw[zhP,Sc c i o,Sc c j p] at this
  simpa using this
 ·have f:=l.1
  simp at f;have:=nr encR 7 (fun _=>rfl) d c.toList (by simpa using f) n t h
  simpa using this
theorem au (w:Ag):Am prog 276 #[X S 0 0,O Ai 0,O Ai 0,.func (.func 151) #[] #[]] w fun e w'=>e=Af (Cm #[])/\w'=w:=by
 go_in;go_wp2;refine wp_loop_rounds 1 ?_;rw[rounds_succ];go_wp2
 go_end0
 exact⟨rfl,rfl⟩
theorem az (l:Ak)(w:Ag):Am prog 209 #[X S 0 0,O Ai 0,O Ai 0,O Ai l,.func (.func 151) #[] #[]] w fun e w'=>e=Af (Cm #[])/\w'=w:=by
 have a:=au w;go_in;go_wp2;refine wp_loop_rounds 1 ?_;rw[rounds_succ];go_wp2_with (go_at_call 276;refine a.mono ?_;rintro e w' ⟨rfl,rfl⟩)
 (try simp only[Exit.inBlock,Exit.then]);refine Et (results_none rfl _ _ _) rfl ?_
 exact⟨rfl,rfl⟩
theorem po (w:Ag):Am prog 150 #[X S 0 0,.func (.func 151) #[] #[]] w fun e w'=>e=Af (Cm #[])/\w'=w:=by
 have b:=fun l=>az l w
 have a:=Tryz.hlen 0 w (by omega);go_in;go_wp2_with (first|(go_at_call 210;refine a.mono ?_;rintro e w' ⟨⟨l,rfl⟩,rfl⟩)|(go_at_call 209;refine(b _).mono ?_;rintro e w' ⟨rfl,rfl⟩))
 go_end0
 exact⟨rfl,rfl⟩
theorem aw (w:Ag):Am prog 286 #[X S 0 0,O Ai 0,O Ai 0,.func (.func 154) #[] #[]] w fun e w'=>e=Af (Cm #[])/\w'=w:=by
 go_in;go_wp2;refine wp_loop_rounds 1 ?_;rw[rounds_succ];go_wp2
 go_end0
 exact⟨rfl,rfl⟩
theorem eA (l:Ak)(w:Ag):Am prog 212 #[X S 0 0,O Ai 0,O Ai 0,O Ai l,.func (.func 154) #[] #[]] w fun e w'=>e=Af (Cm #[])/\w'=w:=by
 have a:=aw w;go_in;go_wp2;refine wp_loop_rounds 1 ?_;rw[rounds_succ];go_wp2_with (go_at_call 286;refine a.mono ?_;rintro e w' ⟨rfl,rfl⟩)
 (try simp only[Exit.inBlock,Exit.then]);refine Et (results_none rfl _ _ _) rfl ?_
 exact⟨rfl,rfl⟩
theorem pu (w:Ag):Am prog 153 #[X S 0 0,.func (.func 154) #[] #[]] w fun e w'=>e=Af (Cm #[])/\w'=w:=by
 have b:=fun l=>eA l w
 have a:=Tryz.hlen 0 w (by omega);go_in;go_wp2_with (first|(go_at_call 210;refine a.mono ?_;rintro e w' ⟨⟨l,rfl⟩,rfl⟩)|(go_at_call 212;refine(b _).mono ?_;rintro e w' ⟨rfl,rfl⟩))
 go_end0
 exact⟨rfl,rfl⟩
structure Kept (B:Ad) (l:A Cs) (w w':Ag):Prop where
 os:w'.os=w.os
 tape:w'.tape=w.tape
 output:w'.output=w.output
 size:w.heap.size<=w'.heap.size
 block:∀k,k<w.heap.size->(k<B\/∀c t f,w.heap[k]?=V (Ae c t f)->t ∉ l)->w'.heap[k]?=w.heap[k]?
theorem Kept.refl (B:Ad)(l:A Cs)(w:Ag):Kept B l w w:=by grind[Kept]
variable {l:A Cs}
theorem Kept.trans {c:Ag}(h:Kept B l a b)(d:Kept B l b c):Kept B l a c:=by grind[Kept]
theorem Kept.floor {c:Ad}(h:Kept B l a b)(d:c<=B):Kept c l a b:=by grind[Kept]
theorem Kept.grown (h:Kept B l a b)(c:a.heap.size<=B):a.grownBy b S:=⟨h.os,h.tape,h.output,h.size,fun k hk _=>h.block k hk (Or.inl (Eh hk c))⟩
theorem xJ (h:a.grownBy b S):Kept B l a b:=⟨h.os,h.tape,h.output,h.size,fun k hk _=>h.block k hk (by simp)⟩
theorem v8 {c:Array Aj}{t:Cs}{f:Ad×Ad}(h:a.grownBy b (V g))(d:a.heap[g]?=V (Ae c t f))(i:t∈l)(j:B<=g):Kept B l a b:=
 ⟨h.os,h.tape,h.output,h.size,fun k hk hn=>h.block k hk (fun e=>by
  cases e
  rcases hn with hn|hn
  ·omega
  ·exact hn c t f d i)⟩
theorem zhK {n:Ad}{e:Cs}{s:Ad}{k:A Aj}(h:a.grownBy b (V g))(f:a.ownsRow B e s (X (V ⟨g,0,S⟩) n d) n k)(j:e∈l):Kept B l a b:=by
 obtain⟨c,i⟩:=qT f g rfl;exact v8 h i j (An f g rfl).1
theorem iO {α β:Type}{Q:A Aj->β->Prop}(enc:β×α->A Aj)(d:A (β×α))(h:∀x∈d,Q (enc x) x.1):All2 Q (d.map enc) (d.map Bq):=by
 induction d <;> grind[All2]
theorem iN {α β:Type}{Q:A Aj->β->Prop}(enc:α->A Aj)(d:A α)(m:A β)(a:Z m=Z d)(h:∀j (b:j<Z d) (c:j<Z m),Q (enc d[j]) m[j]):All2 Q (d.map enc) m:=by
 induction d generalizing m with
 |nil=>rw[Ep.1 a];exact .nil
 |cons x d ih=>
  match m,a with
  |y::m,a=>
   exact .cons (h 0 (by simp) (by simp)) (ih m (by simpa using a) fun j b c=>h (j+1) (by simpa using b) (by simpa using c))
theorem zeD {b:A (A Aj)}{i:A P.Hst}(h:All2 (PHostVal w) b i):∃d:A (P.Hst×Sl3),d.map encH=b/\d.map Bq=i/\∀x∈d,PHostVal w (encH x) x.1:=by
 induction h with
 |nil=>exact⟨[],rfl,rfl,fun x hx=>by simp at hx⟩
 | @cons c r cs rs hc _ ih=>
  obtain⟨d,j,k,l⟩:=ih;obtain⟨m,rfl,g⟩:=hc;obtain⟨b,f,_⟩:=id g;obtain⟨a,n,rfl⟩:=zL f;refine⟨(r,a,Z r.rules,n)::d,by rw[Er,j];rfl,by rw[Er,k],fun x hx=>?_⟩;rcases En.1 hx with rfl|hx
  ·exact⟨_,rfl,g⟩
  ·exact l x hx
theorem zg5 {a:A (A Aj)}{b:A P.Rl}(h:All2 (PRuleVal w) a b):∃d:A (P.Rl×Sl3×Sl3×Sl3×Sl3),d.map encR=a/\d.map Bq=b/\∀x∈d,PRuleVal w (encR x) x.1:=by
 induction h with
 |nil=>exact⟨[],rfl,rfl,fun x hx=>by simp at hx⟩
 | @cons c r cs b hc _ ih=>
  obtain⟨d,t,u,v⟩:=ih;obtain⟨z,C,B,y,rfl,f,g,i,j⟩:=hc;obtain⟨k,o,rfl⟩:=zL f;obtain⟨l,p,rfl⟩:=zL g;obtain⟨m,q,rfl⟩:=zL i;obtain⟨n,s,rfl⟩:=zL j;refine⟨(r,(k,Z r.ms,o),(l,Z r.tg,p),(m,Z r.sets,q),(n,Z r.drops,s))::d,by rw[Er,t];rfl,by rw[Er,u],fun x hx=>?_⟩;rcases En.1 hx with rfl|hx
  ·exact⟨_,_,_,_,rfl,f,g,i,j⟩
  ·exact v x hx
theorem PHostVal.away {w':Ag}{c:A Aj}{h:P.Hst}{row:Option Ad}(m:PHostVal w c h)(f:w.grownBy w' row)(l:Safe w row pleaves)(j:∀k,rblk c=V k->row≠V k):PHostVal w' c h:=by
 obtain⟨n,rfl,d,g,i⟩:=m;exact⟨n,rfl,d,zK g f (fun k hb=>j k hb),i.map fun a b hab=>hab.keep f l⟩
def SrtR (a b:P.Hst):Prop:=b.name=a.name/\b.rules.Perm a.rules/\b.rules.Pairwise (fun x y=>Mw y.number x.number=false)
def SrtH (hs hs':A P.Hst):Prop:=∃p:A P.Hst,p.Perm hs/\p.Pairwise (fun x y=>Iy y.name x.name=false)/\(Z hs')=Z p/\∀j (h1:j<Z p) (h2:j<Z hs'),SrtR p[j] hs'[j]
variable {v:Aj}
theorem pn (B:Ad)(j:A P.Rl)(h:PRulesRow w 0 v j)(l:Z j<=12)(c:∀k,v.ownBlock=V k->B<=k):Am prog 153 #[v,.func (.func 154) #[] #[]] w fun e w'=>e=Af (Cm #[])/\w.grownBy w' v.ownBlock/\Safe w v.ownBlock pleaves/\Safe w v.ownBlock [146]/\Kept B [146,213] w w'/\∃rs',PRulesRow w' 0 v rs'/\rs'.Perm j/\rs'.Pairwise (fun x y=>Mw y.number x.number=false):=by
 obtain⟨n,b,o⟩:=h;obtain⟨d,rfl,rfl,p⟩:=zg5 o;rw[Bv] at b l;rcases b.2 with ⟨rfl,h0⟩|⟨g,cap,cur,rfl,hB,hb,_⟩
 ·refine(pu w).mono ?_
  rintro e w' ⟨rfl,rfl⟩;have:d=[]:=Ep.1 h0;subst this;exact⟨rfl,zP _ _,za _ _,za _ _,Kept.refl _ _ _,[],⟨[],Bk _ _ _ _,.nil⟩,List.Perm.refl _,.nil⟩
 ·have m:Safe w (V g) pleaves:=xQ hb
  refine(zfL d b l).mono ?_;rintro e w' ⟨rfl,a,i,r,f,q⟩;refine⟨rfl,f,m,xQ hb,v8 f hb (by decide) (c g rfl),a.map Bq,⟨a.map encR,?_,?_⟩,i.map _,?_⟩
  ·rw[Bv,i.length_eq];exact q
  ·exact iO encR a fun x hx=>(p x (i.mem_iff.1 hx)).keep f m
  ·rw[Ma];exact r
theorem pj (i:A P.Hst)(h:PHosts w B v i)(o:Z i<=12):Am prog 150 #[v,.func (.func 151) #[] #[]] w fun e w'=>e=Af (Cm #[])/\Kept B [146,213] w w'/\∃c:A (P.Hst×Sl3),w'.ownsRow B 146 2 v (Z c) (c.map encH).flatten/\(∀x∈c,PHostVal w' (encH x) x.1)/\(c.map encH).Pairwise (fun a b=>∀k,rblk a=V k->rblk b≠V k)/\(∀x∈c,∀k,rblk (encH x)=V k->B<=k)/\(c.map Bq).Perm i/\(c.map Bq).Pairwise (fun x y=>Iy y.name x.name=false):=by
 obtain⟨p,j,q,l,m⟩:=h;obtain⟨d,rfl,rfl,r⟩:=zeD q;rw[Bv] at j o;rcases j.2 with ⟨rfl,h0⟩|⟨g,cap,cur,rfl,hB,hb,_⟩
 ·refine(po w).mono ?_
  rintro e w' ⟨rfl,rfl⟩;have:d=[]:=Ep.1 h0;subst this;exact⟨rfl,Kept.refl _ _ _,[],Bk _ _ _ _,fun x hx=>by simp at hx,.nil,fun x hx=>by simp at hx,List.Perm.refl _,.nil⟩
 ·have t:Safe w (V g) prtags:=xQ hb
  refine(zfK d j o).mono ?_;rintro e w' ⟨rfl,c,f,i,n,s⟩;refine⟨rfl,zhK n j (by decide),c,by rw[f.length_eq];exact s,fun x hx=>(r x (f.mem_iff.1 hx)).keep n t,?_,fun x hx=>m _ (Hh (f.mem_iff.1 hx)),f.map _,?_⟩
  ·exact(f.map encH).symm.pairwise l (fun {a b} hab k hb ha=>hab k ha hb)
  ·rw[Ma];exact i
theorem lr (d:A P.Hst)(h:PHosts w B v d)(hn:Z d<=12)(hr:∀h∈d,Z h.rules<=12):Am prog 103 #[v] w fun e w'=>e=Af (Fe #[v])/\Kept B [146,213] w w'/\∃hs',PHostsRow w' B v hs'/\SrtH d hs':=by
 have HP:Y (PHosts (w.alloc (Ae #[X S 0 0] 88)) B v d):=h.keep (Ac _ _ S) (za _ _);obtain⟨va,vc,rfl⟩:=h.len;have u:Y ((w.alloc (Ae #[X S 0 0] 88)).heap[w.heap.size]?=V (Ae #[X S 0 0] 88)):=Bn _ _;have ad:Y (Kept B [146,213] w (w.alloc (Ae #[X S 0 0] 88))):=xJ (Ac _ _ S);clear h;go_in;go_wp2_with (go_at_call 150;refine(pj d HP.o hn).mono ?_;rintro e w1 ⟨rfl,aa,a,ho,hv,ae,ag,z,s⟩);have av:Y _:=ad.o.trans aa;have ar:Y (w1.heap[w.heap.size]?=V (Ae #[X S 0 0] 88)):=by
  show w1.heap[w.heap.size]?=_;rw[aa.block w.heap.size (zO u.o) (Bf fun c t f hb=>by rw[u.o] at hb;cases hb;decide)];exact u.o
 have Q:Z a=Z d:=by have:=z.length_eq;simpa using this
 have aw:Y (w1.ownsRow B 146 2 (X va (Z d) vc) (Z d) (a.map encH).flatten):=by have h:=ho;rw[Q] at h;exact h
 have aA:=J hv;have aq:=J ae;have au:=J (ag);have ax:=J z;have ay:=J s;have az:Y (∀x∈a,Z x.1.rules<=12):=fun x hx=>hr x.1 (z.mem_iff.1 (Hh hx))
 clear aa ho hv ae ag z s hr HP u ad;go_wp2
 go_loopw [9] (fun iv wr=>∃(i:Ad) (r:A P.Hst),i<=Z d/\iv=O Ai i/\(Z r)=Z a/\Y (wr.ownsRow B 146 2 (X va (Z d) vc) (Z d) (a.map encH).flatten)/\Y (∀j (b:j<Z a) (n:j<Z r),PHostVal wr (encH a[j]) r[j])/\Y (∀j (b:j<Z a) (n:j<Z r),j<i->SrtR a[j].1 r[j])/\Y (∀j (b:j<Z a) (n:j<Z r),i<=j->r[j]=a[j].1)/\Y (Kept B [146,213] w wr)/\Y (wr.heap[w.heap.size]?=V (Ae #[X S 0 0] 88))) (fun iv _=>Z d-(intOf iv).toNat)
 ·exact⟨0,a.map Bq,Ax _,rfl,by simp,aw,fun j b n=>by rw[Ha];exact aA.o _ (Cr _),fun j _ _ hj=>absurd hj (by omega),fun j b n _=>by rw[Ha],av,ar⟩
 ·
  obtain⟨i,r,aK,rfl,C,HO,HV,HS,HD,E,HB⟩:=hrel
  by_cases aL:i<Z d
  ·have o:i<Z a:=by omega
   have aj:i<Z r:=by omega
   have aJ:(i:Ak)<Z d:=by omega
   obtain⟨g,gc,ai,_,aI⟩:=World.ownsRow.form HO.o (by omega);simp only[Value.slice.injEq] at ai;obtain⟨rfl,_,rfl⟩:=ai;have ap:=HV.o i o aj;have al:=HD.o i o aj (Aq _);have am:=az.o a[i] (Cr o);rw[al] at ap;have e0:wr.cell? ⟨g,i*2,S⟩=V (I (Aa a[i].1.name)):=by
    rw[Ap HO.o (i*2) (by omega),tB encH 2 (fun _=>rfl) a (i*2),Nat.mul_div_cancel _ (by decide),Sc a i o,Nat.mul_mod_left];rfl
   have e1:wr.cell? ⟨g,i*2+1,S⟩=V (X a[i].2.1 a[i].2.2.1 a[i].2.2.2):=by
    rw[Ap HO.o (i*2+1) (by omega),tB encH 2 (fun _=>rfl) a (i*2+1),show(i*2+1) / 2=i by omega,Sc a i o,show(i*2+1) % 2=1 by omega];rfl
   obtain⟨vR,ao,H⟩:=ap;have aE:vR=X a[i].2.1 a[i].2.2.1 a[i].2.2.2:=by
    have b:=congrArg (fun l=>l[1]?) ao;simp[encH] at b;exact b.symm
   subst aE;have p:=Ac wr (Ae #[I (Aa a[i].1.name),X a[i].2.1 a[i].2.2.1 a[i].2.2.2] 146) S;have ab:Y (Am prog 153 #[X a[i].2.1 a[i].2.2.1 a[i].2.2.2,.func (.func 154) #[] #[]] (wr.alloc (Ae #[I (Aa a[i].1.name),X a[i].2.1 a[i].2.2.1 a[i].2.2.2] 146)) fun e w'=>e=Af (Cm #[])/\∃m:A P.Hst,Z m=Z a/\(w'.ownsRow B 146 2 (Fz0 (Z d) g vc) (Z d) (a.map encH).flatten)/\(∀j (b:j<Z a) (n:j<Z m),PHostVal w' (encH a[j]) m[j])/\(∀j (b:j<Z a) (n:j<Z m),j<i+1->SrtR a[j].1 m[j])/\(∀j (b:j<Z a) (n:j<Z m),i+1<=j->m[j]=a[j].1)/\(Kept B [146,213] w w')/\(w'.heap[w.heap.size]?=V (Ae #[X S 0 0] 88))):=by
    refine(pn B a[i].1.rules (H.keep p (za _ _)) am (fun k F=>au.o a[i] (Cr o) k F)).mono ?_;rintro e w2 ⟨rfl,ah,aG,aH,ak,aF,aB,aC,aD⟩;refine⟨rfl,r.set i ⟨a[i].1.name,aF⟩,by simpa using C,x7 (zK HO.o p (fun k F c=>by cases c)) ah aH,?_,?_,?_,(E.o.trans (xJ p)).trans ak,?_⟩
    ·intro j b n
     rw[List.getElem_set]
     by_cases q:i=j
     ·subst q
      rw[Az rfl];exact⟨_,rfl,aB⟩
     ·rw[Aw q]
      refine((HV.o j b (by simpa using n)).keep p (za _ _)).away ah aG ?_;intro k F an;have s:=Vk.1 aq.o;rcases Nat.lt_or_gt_of_ne q with hl|hl
      ·have:=s i j (by simpa using o) (by simpa using b) hl k
       rw[Ha,Ha] at this;exact this an F
      ·have:=s j i (by simpa using b) (by simpa using o) hl k
       rw[Ha,Ha] at this;exact this F an
    ·intro j b n hj
     rw[List.getElem_set]
     by_cases q:i=j
     ·subst q
      rw[Az rfl];exact⟨rfl,aC,aD⟩
     ·rw[Aw q]
      exact HS.o j b (by simpa using n) (by omega)
    ·intro j b n hj
     rw[List.getElem_set,Aw (by omega)];exact HD.o j b (by simpa using n) (by omega)
    ·have N:=zE HB.o p
     rw[ak.block w.heap.size (zO N) (Bf fun c t f hb=>by rw[N] at hb;cases hb;decide)];exact N
   clear ao H p al am;obtain⟨di,af⟩:∃x,x=a[i]:=⟨_,rfl⟩;rw[<-af] at e0 e1 ab;clear af;clear HV HS HD HO E HB;go_wp2_with (go_at_call 153;refine ab.o.mono ?_;rintro e w2 ⟨rfl,m,q1,q2,q3,q4,q5,q6,q7⟩)
   go_roundw
   ·exact⟨i+1,m,by omega,by go_num,q1,q2,q3,q4,q5,q6,q7⟩
   ·simp[intOf];omega
  ·have c0:=cbi 0 HB.o
   have f0:=zm9 0 HB.o;have HE:Y (i=Z d):=by show i=Z d;omega
   go_wp2;have y:=zF wr w.heap.size 0 (X va (Z d) vc);have sf:Safe wr (V w.heap.size) phtags:=xQ HB.o;refine Et (v:=.agg #[X va (Z d) vc]) (by simp[Hm,results103,go_sem,c0]) rfl ⟨rfl,?_,r,?_,a.map Bq,ax.o,ay.o,by simpa using C,?_⟩
   ·refine⟨E.o.os,E.o.tape,E.o.output,Bi E.o.size y.size,fun k F ht=>?_⟩
    rw[y.block k (Eh F E.o.size) (fun e=>by cases e;omega)];exact E.o.block k F ht
   ·refine⟨a.map encH,?_,iN encH a r C fun j b n=>(HV.o j b n).keep y (jW sf)⟩
    rw[C,Q];exact x7 HO.o y sf
   ·intro j b n
    rw[Ha];have h3:j<Z a:=by simpa using b
    exact HS.o j h3 n (by rw[HE.o,<-Q];exact h3)
theorem zf9 {rb:Ad}{s:As}(c:w.heap[rb]?=V (Ae #[I s,O Ai 0,O Ai 0,I ⟨#[]⟩,Av false,O Ai 0,O Ai 0] 204 (0,0)))(b:s.size<=1000000000000):Am prog 100 #[Al (V ⟨rb,0,S⟩),O Ai 0] w fun e w'=>e=Af (Cm #[])/\PInv w' rb s (kW s.data.toList)/\w.grownBy w' (V rb):=by
 have n:=cbi 0 c;have h:=J c;have l:Y _:=fun w=>tT s 0 w b (Ax _)
 have i:Y (kW s.data.toList=⟨zg s.data.toList 0,false,0,0⟩):=rfl;have f:Y (∃q,q<=s.size/\zg s.data.toList 0=zg s.data.toList q):=⟨0,Ax _,rfl⟩;generalize zg s.data.toList 0=t at*;go_in;go_wp2_with fail;refine(l.o _).mono ?_;rintro e g ⟨rfl,d⟩;have a:=zE h.o d;have o:=cbi 1 a;have p:=cbi 2 a;have r:=cbi 3 a;have u:=zm9 1 a;have v:=zm9 2 a;have x:=zm9 3 a;have m:=J a;have j:=J d;go_wp2
 go_end0
 have d:g.grownBy (((g.setCell ⟨rb,1,S⟩ (O Ai t.k)).setCell ⟨rb,2,S⟩ (O Ai t.at_)).setCell ⟨rb,3,S⟩ (I (Aa t.raw))) (V rb):=
  zD (zD (zF _ _ _ _) (zF _ _ _ _)) (zF _ _ _ _)
 refine⟨rfl,?_,zD (zT j.o _) d⟩;rw[i.o];exact⟨zH (zH (zH m.o _) _) _,b,f.o⟩
def yV (p:P.St):Ak×Ak:=if p.broken then (2,p.tok.at_) else if p.err≠0 then (p.err,p.fat) else (0,0)
theorem lZ (s:As)(w:Ag)(aD:s.size<=1000000000000)(hG:Glob w)
  (H:(zp s.data.toList).2.broken=false->(zp s.data.toList).2.err=0->Z (zp s.data.toList).1<=12/\∀h∈(zp s.data.toList).1,Z h.rules<=12):Am prog 67 #[I s] w fun e w'=>∃v,e=Af (Cm #[Fe #[v],O Ai (yV (zp s.data.toList).2).1,O Ai (yV (zp s.data.toList).2).2])/\w.grownBy w' S/\
   ((zp s.data.toList).2.broken=false->(zp s.data.toList).2.err=0->∃l,PHostsRow w' 0 v l/\SrtH (zp s.data.toList).1 l)/\∃a n c,v=X a n c:=by
 have HR:Y (zp s.data.toList=((qg s.data.toList (Z s.data.toList+1) (kW s.data.toList) []).1,jk s.data.toList (qg s.data.toList (Z s.data.toList+1) (kW s.data.toList) []).2)):=rfl;have HL:Y _:=fun w rb h=>zf9 (w:=w) (rb:=rb) (s:=s) h aD
 have HH:Y _:=fun w rb (h:PInv w rb s (kW s.data.toList)) (hG:Glob w) (hrb:rb≠0)=>zf7 h hG hrb
 have aa:Y (∀w rb,PInv w rb s (qg s.data.toList (Z s.data.toList+1) (kW s.data.toList) []).2->Am prog 102 #[Al (V ⟨rb,0,S⟩)] w fun e w'=>e=Af (Cm #[])/\PInv w' rb s (jk s.data.toList (qg s.data.toList (Z s.data.toList+1) (kW s.data.toList) []).2)/\w.grownBy w' (V rb)):=fun w rb h=>oC h
 generalize zp s.data.toList=rd at*;generalize kW s.data.toList=st0 at*;generalize qg s.data.toList (Z s.data.toList+1) st0 []=q at*;generalize jk s.data.toList q.2=pe at*;obtain⟨hs,qs⟩:=q;have HQ:=J (HR.o);have r:pe.broken=false->pe.err=0->Z hs<=12/\∀h∈hs,Z h.rules<=12:=by rw[HQ.o] at H;exact H
 have ae:=J (hG);rw[HQ.o];simp only;have ah:=J r;have al:w.grownBy ((w.alloc (Ae #[X S 0 0] 88)).alloc (Ae #[I s,O Ai 0,O Ai 0,I ⟨#[]⟩,Av false,O Ai 0,O Ai 0] 204)) S:=zD (Ac _ _ _) (Ac _ _ _);have ab:=J al;have p:Y (((w.alloc (Ae #[X S 0 0] 88)).alloc (Ae #[I s,O Ai 0,O Ai 0,I ⟨#[]⟩,Av false,O Ai 0,O Ai 0] 204)).heap[w.heap.size+1]?=V (Ae #[I s,O Ai 0,O Ai 0,I ⟨#[]⟩,Av false,O Ai 0,O Ai 0] 204)):=by
  have:=Bn (w.alloc (Ae #[X S 0 0] 88)) (Ae #[I s,O Ai 0,O Ai 0,I ⟨#[]⟩,Av false,O Ai 0,O Ai 0] 204);rw[show(w.alloc (Ae #[X S 0 0] 88)).heap.size=w.heap.size+1 by simp] at this;exact this
 have m:Y (((w.alloc (Ae #[X S 0 0] 88)).alloc (Ae #[I s,O Ai 0,O Ai 0,I ⟨#[]⟩,Av false,O Ai 0,O Ai 0] 204)).heap[w.heap.size]?=V (Ae #[X S 0 0] 88)):=zE (Bn w (Ae #[X S 0 0] 88)) (Ac _ _ S);go_in;go_wp2_with fail;refine(HL.o _ _ p.o).mono ?_;rintro e w1 ⟨rfl,ai,C⟩;have af:=J ai;have g:=J (ze ab.o C);have aA:=J (g.o.size);have N:=J (zE m.o C);have o:=J (ae.o.keep g.o (by simp));go_wp2_with fail;refine(HH.o _ _ af.o o.o (by omega)).mono ?_;rintro e w2 ⟨v,rfl,aj,E,z⟩;obtain⟨va,vc,rfl⟩:=PHosts.len z;have y:=J (aj);have ag:=J (z);have ad:=J (ze g.o E);have Q:=J (zE N.o E);go_wp2_with fail;refine(aa.o _ _ y.o).mono ?_;rintro e w3 ⟨rfl,ak,k⟩;have i:=J (ak);have ax:=J (PHosts.keep ag.o k (y.o.safe (by decide)));have x:=J (ze ad.o k);have d:=J (zE Q.o k);have c2:=cbi 2 i.o.rd;have c4:=cbi 4 i.o.rd;have c5:=cbi 5 i.o.rd;have c6:=cbi 6 i.o.rd;have b0:=cbi 0 d.o;have f0:=zm9 0 d.o
 by_cases j:pe.broken=true
 ·have HE:Y (yV pe=(2,(pe.tok.at_:Ak))):=by show yV pe=_;unfold yV;rw[Az j]
  go_wp2
  go_region
  all_goals
   go_wp2;refine Et (v:=.tuple #[Fe #[X S 0 0],O Ai 2,O Ai pe.tok.at_]) (by simp[Hm,results67,go_sem,b0]) rfl ⟨_,by rw[HE.o],zD (ze x.o (zF w3 w.heap.size 0 (X S 0 0)) (Aq _)) (zV _),fun h=>absurd h (by rw[j];decide),_,_,_,rfl⟩
 ·have B:pe.broken=false:=by simpa using j
  by_cases b:pe.err=0
  ·have HE:Y (yV pe=(0,0)):=by show yV pe=_;unfold yV;rw[Aw (by rw[B];simp),Aw (by simpa using b)]
   obtain⟨an,ao⟩:=ah.o B b;have aC:(pe.err != 0)=false:=by rw[b];rfl
   have au:=J an;have av:=J ao;go_wp2_with fail;refine(lr hs ax.o au.o av.o).mono ?_;rintro e w4 ⟨rfl,F,l,ap,aq⟩;have ar:Y (w.grownBy w4 S):=((xJ x.o).trans (F.floor aA.o)).grown (Aq _);have ay:=J (ap);have az:=J (aq);have u:Y (w4.heap[w.heap.size]?=V (Ae #[X S 0 0] 88)):=by
    show w4.heap[w.heap.size]?=_;rw[F.block w.heap.size (zO d.o) (Bf fun c t f hb=>by rw[d.o] at hb;cases hb;decide)];exact d.o
   have b4:=cbi 0 u.o;have f4:=zm9 0 u.o;go_wp2;have am:=zF w4 w.heap.size 0 (X va (Z hs) vc);refine Et (v:=.tuple #[Fe #[X va (Z hs) vc],O Ai 0,O Ai 0]) (by simp[Hm,results67,go_sem,b4]) rfl ⟨_,by rw[HE.o],ze ar.o am (Aq _),fun _ _=>⟨l,?_,az.o⟩,_,_,_,rfl⟩;obtain⟨aB,r1,r2⟩:=ay.o;exact PHostsRow.keep ⟨aB,zo r1 (Ax _),r2⟩ am (xQ u.o)
  ·have HE:Y (yV pe=(pe.err,pe.fat)):=by show yV pe=_;unfold yV;rw[Aw (by rw[B];simp),Az b]
   have aC:(pe.err != 0)=true:=by rw[Qv];exact b
   have aw:=J (b);go_wp2
   go_region
   all_goals
    go_wp2;refine Et (v:=.tuple #[Fe #[X S 0 0],O Ai pe.err,O Ai pe.fat]) (by simp[Hm,results67,go_sem,b0]) rfl ⟨_,by rw[HE.o],zD (ze x.o (zF w3 w.heap.size 0 (X S 0 0)) (Aq _)) (zV _),fun _ h=>absurd h aw.o,_,_,_,rfl⟩
def xA (l:A Ab):Ak×Ak:=if 3000<Z l then (1,0) else yV (zp l).2
theorem wg {p:P.St}(h:(yV p).1=0):p.broken=false/\p.err=0:=by grind[yV,P.St]
theorem o5 (s:As)(w:Ag)(m:s.size<=maxLen)(q:Glob w)
  (j:s.size<=3000->(zp s.data.toList).2.broken=false->(zp s.data.toList).2.err=0->Z (zp s.data.toList).1<=12/\∀h∈(zp s.data.toList).1,Z h.rules<=12):Am prog 41 #[I s] w fun e w'=>∃v,e=Af (Cm #[Fe #[v],O Ai (xA s.data.toList).1,O Ai (xA s.data.toList).2])/\w.grownBy w' S/\
   ((xA s.data.toList).1=0->∃b,PHostsRow w' 0 v b/\SrtH (zp s.data.toList).1 b)/\∃a n c,v=X a n c:=by
 unfold maxLen at m;have f:Y ((w.alloc (Ae #[X S 0 0] 88)).heap[w.heap.size]?=V (Ae #[X S 0 0] 88)):=Bn _ _;have k:Y (w.grownBy (w.alloc (Ae #[X S 0 0] 88)) S):=Ac _ _ S
 by_cases d:3000<s.size
 ·have p:Y (xA s.data.toList=(1,0)):=by show xA _=_;unfold xA;rw[Az (by rw[Cp];exact d)]
  generalize xA s.data.toList=er at*;have F:=cbi 0 f.o;go_in;go_wp2;refine Et (v:=.tuple #[Fe #[X S 0 0],O Ai 1,O Ai 0]) (by simp[Hm,results41,go_sem,F]) rfl ⟨_,by rw[p.o],k.o,fun h=>absurd h (by rw[p.o];decide),_,_,_,rfl⟩
 ·have B:s.size<=3000:=by omega
  have p:Y (xA s.data.toList=yV (zp s.data.toList).2):=by show xA _=_;unfold xA;rw[Aw (by rw[Cp];exact d)]
  have x:Y (∀w,Glob w->Am prog 67 #[I s] w fun e w'=>∃v,e=Af (Cm #[Fe #[v],O Ai (xA s.data.toList).1,O Ai (xA s.data.toList).2])/\w.grownBy w' S/\
   ((xA s.data.toList).1=0->∃b,PHostsRow w' 0 v b/\SrtH (zp s.data.toList).1 b)/\∃a n c,v=X a n c):=fun w q=>by
    rw[p.o];exact(lZ s w (by omega) q (j B)).mono fun e w' ⟨v,y,z,h3,h4⟩=>⟨v,y,z,fun h=>h3 (wg h).1 (wg h).2,h4⟩
  generalize xA s.data.toList=er at*;generalize zp s.data.toList=rd at*;have r:Y (Glob (w.alloc (Ae #[X S 0 0] 88))):=q.keep (Ac _ _ S) (by simp);go_in;go_wp2_with fail;refine(x.o _ r.o).mono ?_;rintro e N ⟨v,rfl,i,o,C,E,vc,rfl⟩;have t:Y _:=zD k.o i;have u:=J o;have g:=J (zE f.o i);have H:=cbi 0 g.o;have Q:=zm9 0 g.o;go_wp2;have l:=zF N w.heap.size 0 (X C E vc);refine Et (v:=.tuple #[Fe #[X C E vc],O Ai er.1,O Ai er.2]) (by simp[Hm,results41,go_sem,H]) rfl ⟨_,rfl,ze t.o l (Aq _),fun h=>?_,_,_,_,rfl⟩;obtain⟨b,y,z⟩:=u.o h;exact⟨b,PHostsRow.keep y l (xQ g.o),z⟩
def wtags:A Cs:=[143,5]
structure WAt (w:Ag) (wb:Ad) (p:Aj) (l:A Ab) (op:Ak):Prop where
 ex:∃v,w.heap[wb]?=V (Ae #[p,v,O Ai op] 143 (0,0))/\w.ownsRow (wb+1) 5 1 v (Z l) (Lib.byteCells l)
def WInv (w:Ag)(wb:Ad)(l:A Ab)(op:Ak):Prop:=WAt w wb (Al S) l op\/WAt w wb (Al (V ⟨wb,0,S⟩)) l op
theorem rH:(prog.info? 141).map (·.size)=V 2:=by kernel_rfl
theorem jD:(prog.info? 5).map (fun i=>(i.zero,i.size,i.bytes))=V (V (O .u8 0),1,1):=by kernel_rfl
theorem zjH:liesAt prog (prog).depth 143 (3 / (prog).cellsOf 143) 0 141 1=true:=by kernel_rfl
theorem zbN (b:Ad)(w:Ag)(c:Array Aj)(d:w.heap[b]?=V (Ae c 143 (0,0)))(i:c.size=3)(h:c[0]?=V (Al S)):Am prog 214 #[Al (V ⟨b,0,S⟩)] w fun e w'=>e=Af (Cm #[])/\w'=w.setCell ⟨b,0,S⟩ (Al (V ⟨b,0,S⟩)):=by
 obtain⟨j,g,f⟩:=Oz.1 rH;have k:w.cell? ⟨b,0,S⟩=V (Al S):=by rw[Lib.cell_of_heap d];exact h
 have l:=zm9 0 d;have a:w.shape? b=V (143,3):=by simp[World.shape?,d,i]
 go_in;go_wp2;rw[Lib.run_to_unsafe w ⟨b,0,S⟩ underlying139 underlying386 g (by rw[f];decide) a (Nat.zero_lt_succ 2)];simp only[Result.andThen];rw[Oper.upon_value];go_wp2;rw[run_callFunc_extern func294 (by kernel_rfl) (by kernel_rfl) (by kernel_rfl) (e:=Extern.AbiNoEscape.same) (by kernel_rfl)];rw[Lib.run_noEscape];simp only[Result.andThen];rw[Oper.upon_value];go_wp2;rw[Lib.run_from_unsafe w ⟨b,0,S⟩ underlying386 underlying139 g a zjH];simp only[Result.andThen];rw[Oper.upon_value];go_wp2
 go_end0
 exact⟨rfl,rfl⟩
theorem zbO (b:Ad)(w:Ag)(d:w.cell? ⟨b,0,S⟩=V (Al (V ⟨b,0,S⟩))):Am prog 214 #[Al (V ⟨b,0,S⟩)] w fun e w'=>e=Af (Cm #[])/\w'=w:=by
 obtain⟨j,a,c⟩:=Oz.1 rH;go_in;go_wp2;rw[Lib.run_neq_ptr_same w _ underlying139 a];go_wp2
 go_end0
 exact⟨rfl,rfl⟩
variable {op:Ak}
theorem sH {a:Ad}{l:A Ab}(h:WInv w a l op):Am prog 214 #[Al (V ⟨a,0,S⟩)] w fun e w'=>e=Af (Cm #[])/\WAt w' a (Al (V ⟨a,0,S⟩)) l op/\Kept a wtags w w':=by
 rcases h with ⟨v,b,c⟩|h
 ·refine(zbN a w _ b rfl rfl).mono ?_
  rintro e w' ⟨rfl,rfl⟩;have d:=zF w a 0 (Al (V ⟨a,0,S⟩));exact⟨rfl,⟨v,zH b _,zK c d (fun k hk e=>by have:=(An c k hk).1;cases e;omega)⟩,v8 d b (by decide) (Aq _)⟩
 ·obtain⟨v,b,c⟩:=id h
  refine(zbO a w (zB b)).mono ?_;rintro e w' ⟨rfl,rfl⟩;exact⟨rfl,h,Kept.refl _ _ _⟩
theorem oN {l:A Ab}(h:WInv w d l op)(s:As)(hl:Z l+s.size<=140737488355328):Am prog 156 #[Al (V ⟨d,0,S⟩),I s] w fun e w'=>e=Af (Cm #[O Ai s.size,.nilIface])/\WInv w' d (l++s.data.toList) op/\Kept d wtags w w':=by
 obtain⟨i0,N,t,u,x⟩:=info_parts jD;have z:=J (sH h);go_in;go_wp2_with fail;refine z.o.mono ?_;rintro e w1 ⟨rfl,⟨v,o,C⟩,p⟩;have E:=J o;have n:=J (C);have F:=J p;have c1:=cbi 1 o;have Q:=zO o;go_wp2_with (at_builtin;refine Lib.wpList_append_own_string _ rfl _ _ 32 9 rfl (d+1) 5 i0 underlying32 underlying9 N t u x _ _ _ rfl n.o s rfl ?c3 ?c4 ?c5 ?_)
 ·unfold maxLen;omega
 ·omega
 ·omega
 intro v' y b a _;obtain⟨va,vc,rfl⟩:=zL b;have f:y.heap[d]?=V (Ae #[Al (V ⟨d,0,S⟩),v,O Ai op] 143 (0,0)):=zE E.o a (fun e=>by have:=(An n.o d e.symm).1;omega);have i:=J f;have m:Kept d wtags w1 y:=by
  cases hv:v.ownBlock with
  |none=>rw[hv] at a;exact xJ a
  |some g=>
   rw[hv] at a;obtain⟨c,H⟩:=qT n.o g hv;exact v8 a H (by decide) (by have:=(An n.o g hv).1;omega)
 have q:Y _:=F.o.trans m;have j:=J b;have d1:=cbi 1 f;have f1:=zm9 1 f;go_wp2
 go_ret2
 have B:=zF y d 1 (X va (Z l+s.size) vc);refine⟨rfl,Bf ⟨_,zH i.o _,?_⟩,q.o.trans (v8 B i.o (by decide) (Aq _))⟩;have r:=zK j.o B (fun k p e=>by have:=(An j.o k p).1;cases e;omega);rw[Ah,Cp,Hl];exact r
theorem zfQ {l:A Ab}(h:WInv w d l op)(c:Ab)(hl:Z l+1<=140737488355328):Am prog 158 #[Al (V ⟨d,0,S⟩),O .u8 c.toNat] w fun e w'=>e=Af .nilIface/\WInv w' d (l++[c]) op/\Kept d wtags w w':=by
 obtain⟨i0,hi,z,B,C⟩:=info_parts jD;have H:=J (sH h);go_in;go_wp2_with fail;refine H.o.mono ?_;rintro e E ⟨rfl,⟨v,r,Q⟩,t⟩;have HB:=J r;have q:=J (Q);have HK:=J t;have c1:=cbi 1 r;have aa:=zO r;go_wp2_with (at_builtin;refine wpList_append_own _ rfl _ _ 32 rfl (d+1) 5 i0 _ 1 1 underlying32 hi z B C rfl (by decide) _ _ _ rfl (Ao q.o _) ⟨E.heap.size,0,S⟩ 1 1 [O .u8 c.toNat] rfl ?a1 ?a2 ?a3 ?a4 ?a5 ?a6 ?_)
 ·rfl
 ·
  intro j u s
  match j,s with
  |0,s=>simp at s;subst s;simp[Addr.add]
 ·intro u hu;simp at hu;subst hu;rfl
 ·unfold maxLen;omega
 ·omega
 ·simp;omega
 intro v' F b a _;obtain⟨va,vc,rfl⟩:=zL b;have i:=Ac E (Ae #[O .u8 c.toNat] 5) S;have o:=zE HB.o i;have f:F.heap[d]?=V (Ae #[Al (V ⟨d,0,S⟩),v,O Ai op] 143 (0,0)):=zE o a (fun e=>by have:=(An q.o d e.symm).1;omega);have m:=J f;have p:Kept d wtags E F:=by
  refine(xJ i).trans ?_
  cases hv:v.ownBlock with
  |none=>rw[hv] at a;exact xJ a
  |some g=>
   rw[hv] at a;obtain⟨c,hc⟩:=qT (Ao q.o _) g hv;exact v8 a hc (by decide) (by have:=(An q.o g hv).1;omega)
 have x:Y _:=HK.o.trans p;have n:=J b;have d1:=cbi 1 f;have f1:=zm9 1 f;go_wp2;go_ret;have N:=zF F d 1 (X va (Z l+1) vc);refine⟨rfl,Bf ⟨_,zH m.o _,?_⟩,x.o.trans (v8 N m.o (by decide) (Aq _))⟩;have y:=zK n.o N (fun k t e=>by have:=(An n.o k t).1;cases e;omega);rw[Ah,Hl];exact y
def xR (k i:Ad):Ad:=if i % 2=0 then k % 256 else k / 256 % 256
theorem fX (k i:Ad)(w:Ag)(d:k<1000000000000:=by omega)(c:i<1000000000000000:=by omega):Am prog 65 #[O Ai k,O Ai i] w fun e w'=>e=Af (O .u8 (xR k i:Ad))/\w'=w:=by
 have a:Y (xR k i=if i % 2=0 then k % 256 else k / 256 % 256):=rfl;generalize xR k i=r at*
 by_cases h:i % 2=0
 ·rw[Az h] at a
  have b:((i:Ak) % 2=0):=by omega
  go_in;go_wp2;go_ret;refine⟨?_,rfl⟩;rw[a.o];show Af (O .u8 ((k:Ak) % 256))=_
  go_num
 ·rw[Aw h] at a
  have b:¬((i:Ak) % 2=0):=by omega
  go_in;go_wp2;go_ret;refine⟨?_,rfl⟩;rw[a.o];show Af (O .u8 ((k:Ak) / 256 % 256))=_
  go_num
end Go.Proofs.YtfocdefchbnkpaaGreatDoor
