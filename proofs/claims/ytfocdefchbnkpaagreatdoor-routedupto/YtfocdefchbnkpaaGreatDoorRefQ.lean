/- The tokens of a text of at most 3000 bytes: there are not many, each is short, numbers are small, and behind each but the last there is another. -/
import Derived.Test.YtfocdefchbnkpaaGreatDoorAli
import Derived.Test.YtfocdefchbnkpaaGreatDoorPure1
import Derived.Test.YtfocdefchbnkpaaGreatDoorProR
import Derived.Deep.CutRange
import Derived.Deep.RegionWith
import Derived.Deep.RegionHeld3
import Derived.Deep.AppendLies
import Derived.Maps.AppendAt
import Derived.Laws.AppendOwnNone
import Derived.Laws.Cover1
set_option maxRecDepth 100000
set_option maxHeartbeats 20000000
namespace Go.Proofs.YtfocdefchbnkpaaGreatDoor
open Go.RowKit
namespace R
theorem wrap_id (n:Int)(h0:0<=n)(h:n<9223372036854775808):wrap64 n=n:=by unfold wrap64;omega
theorem numStep_digit (n:Int)(c:UInt8)(h0:0<=n)(h1:n<=100000000)(hc:digitI c.toNat=true):numStep n c=10*n+(c.toNat - 48)/\0<=(c.toNat:Int) - 48/\(c.toNat:Int) - 48<=9:=by
 unfold digitI at hc
 simp only[Bool.and_eq_true,decide_eq_true_eq] at hc
 unfold numStep
 have e:((c.toNat:Int) - 48) % 256=c.toNat - 48:=by omega
 rw[e,wrap_id (10*n) (by omega) (by omega),wrap_id _ (by omega) (by omega)]
 omega
theorem num_le (l:List UInt8)(hd:∀c∈l,digitI c.toNat=true)(hl:l.length<=5):0<=num l/\num l<=99999:=by
 have ab:∀(l:List UInt8) (aa:Int) (m:Nat),(∀c∈l,digitI c.toNat=true)->0<=aa->aa+1<=(10:Int) ^ m->m+l.length<=5->0<=l.foldl numStep aa/\l.foldl numStep aa+1<=(10:Int) ^ (m+l.length):=by
  intro l
  induction l with
  | nil=>intro aa m _ h0 h1 _;exact⟨h0,h1⟩
  | cons c l ih=>
   intro aa m hd h0 h1 hm
   have hp:(10:Int) ^ m<=100000:=by
    have:m<=5:=by omega
    match m,this with
    | 0,_=>decide
    | 1,_=>decide
    | 2,_=>decide
    | 3,_=>decide
    | 4,_=>decide
    | 5,_=>decide
   obtain⟨e,g0,g1⟩:=numStep_digit aa c h0 (by omega) (hd c (by simp))
   rw[List.foldl_cons,e]
   have:=ih (10*aa+(c.toNat - 48)) (m+1) (fun d hdm=>hd d (by simp[hdm])) (by omega) (by rw[Int.pow_succ];omega) (by simp at hm;omega)
   rw[zm,show m+(l.length+1)=m+1+l.length by omega]
   exact this
 have:=ab l 0 0 hd (by omega) (by decide) (by omega)
 unfold num
 refine⟨this.1,?_⟩
 have h5:(10:Int) ^ (0+l.length)<=100000:=by
  have:l.length<=5:=hl
  generalize l.length=m at*
  match m,this with
  | 0,_=>decide
  | 1,_=>decide
  | 2,_=>decide
  | 3,_=>decide
  | 4,_=>decide
  | 5,_=>decide
 omega
theorem span_all (p:Int->Bool)(l:List UInt8):∀c∈l.take (span p l),p c.toNat=true:=by
 induction l with
 | nil=>intro c hc;simp at hc
 | cons a l ih=>
  unfold span
  split
  ·rename_i h
   intro c hc
   rw[List.take_succ_cons] at hc
   rcases List.mem_cons.1 hc with rfl | hc
   ·exact h
   ·exact ih c hc
  ·intro c hc;simp at hc
theorem tok_num (l:List UInt8)(i:Nat)(hi:i<l.length)(h:(tend l i).2=49):0<=num (tok l i).s/\num (tok l i).s<=99999:=by
 have hs:(tok l i).s=(l.drop i).take ((tend l i).1 - i):=by unfold tok;rw[h];rfl
 rw[hs]
 unfold tend at h ⊢
 split at h
 ·simp at h
 ·rename_i h1
  rw[if_neg h1]
  split at h
  ·rename_i h2
   rw[if_pos h2]
   split at h
   ·simp at h
   ·rename_i h3
    rw[if_neg h3]
    simp only
    rw[List.drop_eq_getElem_cons hi,show i+1+span digitI (l.drop (i+1)) - i=span digitI (l.drop (i+1))+1 by omega,List.take_succ_cons]
    have aa:(l[i] :: (l.drop (i+1)).take (span digitI (l.drop (i+1)))).length<=5:=by
     rw[zm,List.length_take];omega
    refine num_le _ ?_ aa
    intro c hc
    rcases List.mem_cons.1 hc with rfl | hc
    ·unfold at0 at h2;rw[List.getD_eq_getElem?_getD,qN hi] at h2;exact h2
    ·exact span_all _ _ c hc
  ·split at h
   ·split at h <;> simp at h
   ·split at h <;> simp at h
theorem tok_len (l:List UInt8)(i:Nat):(tok l i).s.length<=l.length:=by
 unfold tok;simp only
 split <;> (rw[List.length_take,List.length_drop];omega)
theorem toksGo_ok (l:List UInt8):∀(n i:Nat),l.length+1 - i<=n->i<=l.length->
  0<(toksGo n l i).length/\(toksGo n l i).length<=l.length+1 - i/\
  (∀(k:Nat) (t:Tok),(toksGo n l i)[k]?=some t->t.k≠0->t.k≠120->k+1<(toksGo n l i).length)/\
  (∀(k:Nat) (t:Tok),(toksGo n l i)[k]?=some t->t.s.length<=l.length/\(t.k=49->0<=num t.s/\num t.s<=99999)):=by
 intro n
 induction n with
 | zero=>intro i h1 h2;omega
 | succ n ih=>
  intro i h1 h2
  by_cases hi:i<l.length
  ·by_cases hb:at0 l i=32\/at0 l i=10
   ·rw[toksGo_blank hi hb]
    obtain⟨a,b,c,d⟩:=ih (i+1) (by omega) (by omega)
    exact⟨a,by omega,c,d⟩
   ·have bd:=tend_bd l i hi
    by_cases hk:(tend l i).2=120
    ·rw[toksGo_bad hi hb hk]
     refine⟨by simp,by simp;omega,?_,?_⟩
     ·intro k t ht _ aa
      match k with
      | 0=>simp at ht;subst ht;exact absurd hk aa
      | k+1=>simp at ht
     ·intro k t ht
      match k with
      | 0=>simp at ht;subst ht;exact⟨tok_len l i,fun h=>tok_num l i hi h⟩
      | k+1=>simp at ht
    ·rw[toksGo_good hi hb hk]
     obtain⟨a,b,c,d⟩:=ih (tend l i).1 (by omega) bd.2.1
     refine⟨by simp,by rw[zm];omega,?_,?_⟩
     ·intro k t ht h0 aa
      rw[zm]
      match k with
      | 0=>omega
      | k+1=>
       rw[List.getElem?_cons_succ] at ht
       have:=c k t ht h0 aa
       omega
     ·intro k t ht
      match k with
      | 0=>simp at ht;subst ht;exact⟨tok_len l i,fun h=>tok_num l i hi h⟩
      | k+1=>rw[List.getElem?_cons_succ] at ht;exact d k t ht
  ·rw[toksGo_end hi]
   refine⟨by simp,by simp;omega,?_,?_⟩
   ·intro k t ht h0 _
    match k with
    | 0=>simp at ht;subst ht;exact absurd rfl h0
    | k+1=>simp at ht
   ·intro k t ht
    match k with
    | 0=>simp at ht;subst ht;exact⟨by simp,fun h=>by simp at h⟩
    | k+1=>simp at ht
theorem toks_ok (l:List UInt8)(h:l.length<=3000):Ok (toks l)/\0<(toks l).length:=by
 obtain⟨a,b,c,d⟩:=toksGo_ok l (l.length+1) 0 (by omega) (by omega)
 refine⟨⟨c,?_,fun k t ht=>?_,fun k t ht hk=>(d k t ht).2 hk⟩,a⟩
 ·unfold toks;omega
 ·have:=(d k t ht).1;omega
end R
end Go.Proofs.YtfocdefchbnkpaaGreatDoor
namespace Go.Proofs.YtfocdefchbnkpaaGreatDoor
open Go.RowKit
def xf (a b:List UInt8):Bool:=Op.bytesLess a b
theorem zdJ (a b:List UInt8):Op.bytesLess (R.str a).toList (R.str b).toList=xf a b:=by rw[Lib.toList_data,Lib.toList_data,R.str_toList,R.str_toList];rfl
def un (h:R.Hst)(out:List R.Hst):Nat:=(out.takeWhile fun o=>xf o.name h.name).length
def zb7 (out:List R.Hst)(h:R.Hst):List R.Hst:=out.take (un h out)++[h]++out.drop (un h out)
def jH (hs:List R.Hst):List R.Hst:=hs.foldl (fun out h=>zb7 out ⟨h.name,ym h.rules⟩) []
theorem zmJ (r:R.Hst)(aa:List R.Hst):un r aa<=aa.length:=by
 unfold un
 exact(List.takeWhile_sublist _).length_le
theorem zmK (aa:List R.Hst)(r:R.Hst):(zb7 aa r).length=aa.length+1:=by
 have:=zmJ r aa
 unfold zb7
 simp
 omega
theorem zlT (l:List R.Hst):(jH l).length=l.length:=by
 unfold jH
 have:∀(l aa:List R.Hst),(l.foldl (fun aa h=>zb7 aa ⟨h.name,ym h.rules⟩) aa).length=aa.length+l.length:=by
  intro l
  induction l with
  | nil=>intro aa;rfl
  | cons a l ih=>intro aa;rw[List.foldl_cons,ih,zmK];simp;omega
 rw[this];simp
def xm (l:List UInt8):Int×Int:=
 if 3000<l.length then (1,0) else if 0<=(R.readS l).2.bad then (2,(R.readS l).2.bad) else ((R.readS l).2.E,if (R.readS l).2.E=0 then 0 else (R.readS l).2.at_)
def j1 (a b:List UInt8):Int:=if xf a b then -1 else if a=b then 0 else 1
def wv (a b:Int):Int:=if a<b then -1 else if a=b then 0 else 1
theorem k8 (x:ByteArray)(w:World):Calls Tryz.prog 211 #[.string x] w fun e w'=>e = .returned (.bool false)/\w'=w:=by
 go_enter Tryz.func211,Tryz.ntmps211
 go_wp2
 go_ret
 exact⟨by simp,rfl⟩
theorem zfL (x:Int)(w:World):Calls Tryz.prog 213 #[.int .i64 x] w fun e w'=>e = .returned (.bool false)/\w'=w:=by
 go_enter Tryz.func213,Tryz.ntmps213
 go_wp2
 go_ret
 exact⟨by simp,rfl⟩
theorem zkH (x y:List UInt8)(w:World):Calls Tryz.prog 152 #[.string (R.str x),.string (R.str y)] w fun e w'=>e = .returned (.int .i64 (j1 x y))/\w'=w:=by
 have h1:=zdJ x y
 have h2:((R.str x).toList == (R.str y).toList)=decide (x=y):=by
  rw[Lib.toList_data,Lib.toList_data,R.str_toList,R.str_toList];by_cases h:x=y <;> simp[h]
 by_cases hl:xf x y=true
 ·rw[hl] at h1
  have e:j1 x y = -1:=by unfold j1;rw[if_pos hl]
  generalize j1 x y=r at*
  subst e
  go_enter Tryz.func152,Tryz.ntmps152
  go_wp2_with (go_at_call 211;refine(k8 _ _).mono ?_;rintro e w' ⟨rfl,rfl⟩)
  go_ret
  exact⟨rfl,rfl⟩
 ·rw[show xf x y=false by simpa using hl] at h1
  by_cases he:x=y
  ·have e:j1 x y=0:=by unfold j1;rw[if_neg hl,if_pos he]
   rw[show decide (x=y)=true by simpa using he] at h2
   generalize j1 x y=r at*
   subst e
   clear he
   go_enter Tryz.func152,Tryz.ntmps152
   go_wp2_with (go_at_call 211;refine(k8 _ _).mono ?_;rintro e w' ⟨rfl,rfl⟩)
   go_ret
   exact⟨rfl,rfl⟩
  ·have e:j1 x y=1:=by unfold j1;rw[if_neg hl,if_neg he]
   rw[show decide (x=y)=false by simpa using he] at h2
   generalize j1 x y=r at*
   subst e
   clear he
   go_enter Tryz.func152,Tryz.ntmps152
   go_wp2_with (go_at_call 211;refine(k8 _ _).mono ?_;rintro e w' ⟨rfl,rfl⟩)
   go_ret
   exact⟨rfl,rfl⟩
theorem zkG (x y:Int)(w:World):Calls Tryz.prog 155 #[.int .i64 x,.int .i64 y] w fun e w'=>e = .returned (.int .i64 (wv x y))/\w'=w:=by
 go_enter Tryz.func155,Tryz.ntmps155
 go_wp2_with (go_at_call 213;refine(zfL _ _).mono ?_;rintro e w' ⟨rfl,rfl⟩)
 all_goals
  go_ret
  refine⟨?_,rfl⟩
  unfold wv
  first | (rw[if_pos (by omega)];rfl) | (rw[if_neg (by omega),if_pos (by omega)];rfl) | (rw[if_neg (by omega),if_neg (by omega)];rfl)
abbrev Sl3:=Option Addr×Nat×Nat
instance:Inhabited P.Hst:=⟨⟨[],[]⟩⟩
instance:Inhabited P.Rl:=⟨⟨0,[],[],[],[],[],[]⟩⟩
def encH (x:P.Hst×Sl3):List Value:=[.string (R.str x.1.name),.slice x.2.1 x.2.2.1 x.2.2.2]
def encR (x:P.Rl×Sl3×Sl3×Sl3×Sl3):List Value:=[.int .i64 x.1.number,.string (R.str x.1.path),.slice x.2.1.1 x.2.1.2.1 x.2.1.2.2,.slice x.2.2.1.1 x.2.2.1.2.1 x.2.2.1.2.2,.string (R.str x.1.rep),.slice x.2.2.2.1.1 x.2.2.2.1.2.1 x.2.2.2.1.2.2,.slice x.2.2.2.2.1 x.2.2.2.2.2.1 x.2.2.2.2.2.2]
theorem zpG (n1 n2:List UInt8)(a1 a2:Option Addr)(l1 l2 c1 c2:Nat)(W:World):Calls Tryz.prog 151 #[.agg #[.string (R.str n1),.slice a1 l1 c1],.agg #[.string (R.str n2),.slice a2 l2 c2]] W fun e w'=>e = .returned (.int .i64 (j1 n1 n2))/\∃q os',w'=Go.Sort.grow (W.drewN q) os':=by
 have aa:=fun W'=>zkH n1 n2 W'
 generalize j1 n1 n2=r at aa ⊢
 go_enter Tryz.func151,Tryz.ntmps151
 go_wp2_with (go_at_call 152;refine(aa _).mono ?_;rintro e w' ⟨rfl,rfl⟩)
 go_ret
 exact⟨rfl,0,_,by rw[Go.Sort.alloc_eq_grow,Go.Sort.alloc_eq_grow,Go.Sort.grow_grow];rfl⟩
theorem zpH (x y:P.Rl×Sl3×Sl3×Sl3×Sl3)(W:World):Calls Tryz.prog 154 #[.agg (encR x).toArray,.agg (encR y).toArray] W fun e w'=>e = .returned (.int .i64 (wv x.1.number y.1.number))/\∃q os',w'=Go.Sort.grow (W.drewN q) os':=by
 have aa:=fun W'=>zkG x.1.number y.1.number W'
 generalize wv x.1.number y.1.number=r at aa ⊢
 show Calls Tryz.prog 154 #[.agg #[_,_,_,_,_,_,_],.agg #[_,_,_,_,_,_,_]] W _
 go_enter Tryz.func154,Tryz.ntmps154
 go_wp2_with (go_at_call 155;refine(aa _).mono ?_;rintro e w' ⟨rfl,rfl⟩)
 go_ret
 exact⟨rfl,0,_,by rw[Go.Sort.alloc_eq_grow,Go.Sort.alloc_eq_grow,Go.Sort.grow_grow];rfl⟩
theorem PV.isAggH:∀w,(isAgg (Tryz.sortHost_ren.t 24)).run Tryz.prog w = .ok true w:=fun w=>by kernel_rfl
theorem PV.sizeH:∀w,(Go.sizeOf (Tryz.sortHost_ren.t 24)).run Tryz.prog w = .ok 2 w:=fun w=>by kernel_rfl
theorem PV.isAggR:∀w,(isAgg (Tryz.sortRule_ren.t 24)).run Tryz.prog w = .ok true w:=fun w=>by kernel_rfl
theorem PV.sizeR:∀w,(Go.sizeOf (Tryz.sortRule_ren.t 24)).run Tryz.prog w = .ok 7 w:=fun w=>by kernel_rfl
theorem PV.enterH:∀args w,(callFunc 151 args).run Tryz.prog w = .ok (.enter 151 args) w:=enters_of Tryz.func151 (by kernel_rfl) rfl
theorem PV.enterR:∀args w,(callFunc 154 args).run Tryz.prog w = .ok (.enter 154 args) w:=enters_of Tryz.func154 (by kernel_rfl) rfl
def cfH (x y:P.Hst×Sl3):Int:=j1 x.1.name y.1.name
def cfR (x y:P.Rl×Sl3×Sl3×Sl3×Sl3):Int:=wv x.1.number y.1.number
theorem zmQ:Go.Proofs.ltOf cfH=fun x y=>Go.Sort.ltStr x.1.name y.1.name:=by
 funext x y;unfold Go.Proofs.ltOf cfH j1 Go.Sort.ltStr xf
 rw[bytesLess_eq]
 by_cases h:x.1.name<y.1.name
 ·simp[h]
 ·simp only[h,decide_false,xO,if_false];split <;> simp
theorem zmR:Go.Proofs.ltOf cfR=fun x y=>Go.Sort.ltInt x.1.number y.1.number:=by
 funext x y;unfold Go.Proofs.ltOf cfR wv Go.Sort.ltInt
 by_cases h:x.1.number<y.1.number
 ·simp[h]
 ·simp only[h,if_false];split <;> simp
theorem zqT:Go.Sort.SWO (Go.Proofs.ltOf cfH):=by
 rw[zmQ];exact⟨fun x=>Go.Sort.swo_ltStr.irrefl _,fun x y z=>Go.Sort.swo_ltStr.trans _ _ _,fun x y z=>Go.Sort.swo_ltStr.ntrans _ _ _⟩
theorem zqU:Go.Sort.SWO (Go.Proofs.ltOf cfR):=by
 rw[zmR];exact⟨fun x=>Go.Sort.swo_ltInt.irrefl _,fun x y z=>Go.Sort.swo_ltInt.trans _ _ _,fun x y z=>Go.Sort.swo_ltInt.ntrans _ _ _⟩
theorem zlB {w:World}{B g aa:Nat}(d:List (P.Hst×Sl3))(h:w.ownsRow B 146 2 (.slice (some ⟨g,0,none⟩) d.length aa) d.length (d.map encH).flatten)(hn:d.length<=12) :
  Calls Tryz.prog 150 #[.slice (some ⟨g,0,none⟩) d.length aa,.func (.func 151) #[] #[]] w fun e w'=>e = .returned (.tuple #[])/\∃d':List (P.Hst×Sl3),d'.Perm d/\d'.Pairwise (fun x y=>Go.Sort.ltStr y.1.name x.1.name=false)/\w.grownBy w' (some g)/\w'.ownsRow B 146 2 (.slice (some ⟨g,0,none⟩) d.length aa) d.length (d'.map encH).flatten:=by
 have ad:g<w.heap.size:=(qh h g rfl).2
 have hH:=kz encH 2 (fun _=>rfl) d h
 have ab:=AnyQ.slices_SortFunc_small_sorted Tryz.sortHost 2 PV.isAggH PV.sizeH encH (fun _=>rfl) (fun x v hv=>by simp[encH] at hv;rcases hv with rfl | rfl <;> rfl) cfH 151 #[] zqT g 0 aa d.toArray w PV.enterH (fun _ _ _ _ x y=>zpG x.1.name y.1.name _ _ _ _ _ _ _) hH ad (by simpa using hn) Tryz.hlen
 change Calls Tryz.prog 150 _ _ _ at ab
 rw[List.size_toArray] at ab
 refine ab.mono ?_
 rintro e w' ⟨rfl,d',n,os,hp,hs,rfl⟩
 refine⟨rfl,d'.toList,?_,?_,uU _ _ _ _ _ _ _,?_⟩
 ·have:=hp.2.2
  have e1:=hp.1
  simp at this e1
  rw[<-e1,jS (by simp)] at this
  exact this
 ·rw[List.pairwise_iff_getElem]
  intro i j hi hj ae
  have e1:=hp.1
  simp at e1 hi hj
  have:=hs i j (zl _) ae (by omega)
  rw[zmQ,getElem!_pos d' i hi,getElem!_pos d' j hj] at this
  simpa using this
 ·have e1:=hp.1
  simp at e1
  have:=tC encH 2 (fun _=>rfl) d d'.toList (by simpa using e1) n os h
  simpa using this
theorem zlD {w:World}{B g aa:Nat}(d:List (P.Rl×Sl3×Sl3×Sl3×Sl3))(h:w.ownsRow B 213 7 (.slice (some ⟨g,0,none⟩) d.length aa) d.length (d.map encR).flatten)(hn:d.length<=12) :
  Calls Tryz.prog 153 #[.slice (some ⟨g,0,none⟩) d.length aa,.func (.func 154) #[] #[]] w fun e w'=>e = .returned (.tuple #[])/\∃d':List (P.Rl×Sl3×Sl3×Sl3×Sl3),d'.Perm d/\d'.Pairwise (fun x y=>Go.Sort.ltInt y.1.number x.1.number=false)/\w.grownBy w' (some g)/\w'.ownsRow B 213 7 (.slice (some ⟨g,0,none⟩) d.length aa) d.length (d'.map encR).flatten:=by
 have ad:g<w.heap.size:=(qh h g rfl).2
 have hH:=kz encR 7 (fun _=>rfl) d h
 have ab:=AnyQ.slices_SortFunc_small_sorted Tryz.sortRule 7 PV.isAggR PV.sizeR encR (fun _=>rfl) (fun x v hv=>by simp[encR] at hv;rcases hv with rfl | rfl | rfl | rfl | rfl | rfl | rfl <;> rfl) cfR 154 #[] zqU g 0 aa d.toArray w PV.enterR (fun _ _ _ _ x y=>zpH x y _) hH ad (by simpa using hn) Tryz.hlen
 change Calls Tryz.prog 153 _ _ _ at ab
 rw[List.size_toArray] at ab
 refine ab.mono ?_
 rintro e w' ⟨rfl,d',n,os,hp,hs,rfl⟩
 refine⟨rfl,d'.toList,?_,?_,uU _ _ _ _ _ _ _,?_⟩
 ·have:=hp.2.2
  have e1:=hp.1
  simp at this e1
  rw[<-e1,jS (by simp)] at this
  exact this
 ·rw[List.pairwise_iff_getElem]
  intro i j hi hj ae
  have e1:=hp.1
  simp at e1 hi hj
  have:=hs i j (zl _) ae (by omega)
  rw[zmR,getElem!_pos d' i hi,getElem!_pos d' j hj] at this
  simpa using this
 ·have e1:=hp.1
  simp at e1
  have:=tC encR 7 (fun _=>rfl) d d'.toList (by simpa using e1) n os h
  simpa using this
end Go.Proofs.YtfocdefchbnkpaaGreatDoor
