/- Routes, as the program lays them: the node at the end of a path. -/
import Derived.Test.YtfocdefchbnkpaaGreatDoorAli
import Derived.Test.YtfocdefchbnkpaaGreatDoorYdJ
set_option maxRecDepth 100000
set_option maxHeartbeats 20000000
namespace Go.Proofs.YtfocdefchbnkpaaGreatDoor
open Go.RowKit
def Tr.Bd (ns:List Tr.Nd)(m:Nat):Prop:=∀(i:Nat) n,ns[i]?=some n->n.br.length<=m/\n.rules.length<=m
theorem Tr.Bd.mono {ns:List Tr.Nd}{m m':Nat}(h:Tr.Bd ns m)(hm:m<=m'):Tr.Bd ns m':=fun i n hi=>by have:=h i n hi;omega
theorem Tr.next_bd {ns:List Tr.Nd}{m:Nat}(h:Tr.Bd ns m)(i:Nat)(c:UInt8):Tr.Bd (Tr.next ns i c).1 (m+1):=by
 unfold Tr.next
 split
 ·exact h.mono (by omega)
 ·rename_i n hn
  split
  ·exact h.mono (by omega)
  ·intro j n' hj
   by_cases e:i=j
   ·subst e
    rw[List.getElem?_set_self (by have:=(List.getElem?_eq_some_iff.1 hn).1;simp;omega)] at hj
    have e2:=qk hj
    subst e2
    have:=h i n hn
    exact⟨by simp;omega,by show n.rules.length<=_;omega⟩
   ·rw[List.getElem?_set_ne e] at hj
    by_cases aa:j<ns.length
    ·rw[List.getElem?_append_left aa] at hj
     have:=h j n' hj
     omega
    ·rw[List.getElem?_append_right (by omega)] at hj
     have h9:=(List.getElem?_eq_some_iff.1 hj).1
     have e3:j - ns.length=0:=by simpa using h9
     rw[e3] at hj
     have e4:=qk hj
     subst e4
     simp
theorem Tr.put_bd {ns:List Tr.Nd}{m:Nat}(h:Tr.Bd ns m)(i k:Nat):Tr.Bd (Tr.put ns i k) (m+1):=by
 unfold Tr.put
 split
 ·exact h.mono (by omega)
 ·rename_i n hn
  intro j n' hj
  by_cases e:i=j
  ·subst e
   rw[List.getElem?_set_self (List.getElem?_eq_some_iff.1 hn).1] at hj
   have e2:=qk hj
   subst e2
   have:=h i n hn
   exact⟨by show n.br.length<=_;omega,by simp;omega⟩
  ·rw[List.getElem?_set_ne e] at hj
   have:=h j n' hj
   omega
theorem Tr.grow_snoc (ns:List Tr.Nd)(i:Nat)(p:List UInt8)(c:UInt8):Tr.grow ns i (p++[c])=Tr.next (Tr.grow ns i p).1 (Tr.grow ns i p).2 c:=by unfold Tr.grow;rw[List.foldl_append];rfl
theorem Tr.grow_ok (p:List UInt8):∀{ns:List Tr.Nd} {i m:Nat},Tr.Ok ns->i<ns.length->Tr.Bd ns m->Tr.Ok (Tr.grow ns i p).1/\(Tr.grow ns i p).2<(Tr.grow ns i p).1.length/\ns.length<=(Tr.grow ns i p).1.length/\(Tr.grow ns i p).1.length<=ns.length+p.length/\Tr.Bd (Tr.grow ns i p).1 (m+p.length):=by
 induction p with
 | nil=>intro ns i m h hi hb;exact⟨h,hi,zZ _,zZ _,hb⟩
 | cons c t ih=>
  intro ns i m h hi hb
  have h1:=Tr.next_ok h i hi c
  have h2:=ih h1.1 h1.2.1 (Tr.next_bd hb i c)
  show Tr.Ok (Tr.grow (Tr.next ns i c).1 (Tr.next ns i c).2 t).1/\(Tr.grow (Tr.next ns i c).1 (Tr.next ns i c).2 t).2<(Tr.grow (Tr.next ns i c).1 (Tr.next ns i c).2 t).1.length/\ns.length<=(Tr.grow (Tr.next ns i c).1 (Tr.next ns i c).2 t).1.length/\(Tr.grow (Tr.next ns i c).1 (Tr.next ns i c).2 t).1.length<=ns.length+(c :: t).length/\Tr.Bd (Tr.grow (Tr.next ns i c).1 (Tr.next ns i c).2 t).1 (m+(c :: t).length)
  refine⟨h2.1,h2.2.1,by omega,by rw[zm];omega,h2.2.2.2.2.mono (by rw[zm];omega)⟩
theorem zm0 (s:ByteArray)(k:Nat)(h:k<s.size):s.data.toList.take (k+1)=s.data.toList.take k++[s[k]]:=by
 have hk:k<s.data.toList.length:=by simpa using h
 rw[List.take_add_one,qN hk]
 rfl
theorem zlF {w0 w:World}{aa:List Nat}{ns:List Tr.Nd}{i b m:Nat}(h:Ar w0 w aa ns)(ag:Tr.Ok ns)(af:Tr.Bd ns m)(hm:m<=100000)(hi:aa[i]?=some b)(s:ByteArray)(hs:s.size<=100000) :
  Calls Tryz.prog 116 #[.pointer (some ⟨b,0,none⟩),.string s] w fun e w'=>∃ex b',e = .returned (.pointer (some ⟨b',0,none⟩))/\Ar w0 w' (aa++ex) (Tr.grow ns i s.data.toList).1/\(aa++ex)[(Tr.grow ns i s.data.toList).2]?=some b':=by
 have ai:i<ns.length:=by have:=h.len;have:=(List.getElem?_eq_some_iff.1 hi).1;omega
 have HZ:Y (Ar w0 w (aa++[]) (Tr.grow ns i (s.data.toList.take 0)).1/\(aa++[])[(Tr.grow ns i (s.data.toList.take 0)).2]?=some b):=by show _/\_;rw[xn];exact⟨h,hi⟩
 have HN:Y (∀k (hk:k<s.size) wr ex b',Ar w0 wr (aa++ex) (Tr.grow ns i (s.data.toList.take k)).1->(aa++ex)[(Tr.grow ns i (s.data.toList.take k)).2]?=some b'->Calls Tryz.prog 174 #[.pointer (some ⟨b',0,none⟩),.int .u8 s[k].toNat] wr fun e w'=>∃ad ab,e = .returned (.pointer (some ⟨ab,0,none⟩))/\Y (Ar w0 w' (aa++ad) (Tr.grow ns i (s.data.toList.take (k+1))).1/\(aa++ad)[(Tr.grow ns i (s.data.toList.take (k+1))).2]?=some ab)):=fun k hk wr ex b' h1 h2=>by
  have hl:(s.data.toList.take k).length<=100000:=by rw[List.length_take];omega
  obtain⟨o1,o2,o3,o4,o5⟩:=Tr.grow_ok (s.data.toList.take k) ag ai af
  refine(zlH h1 o1 h2 s[k] (fun n hn=>by have:=(o5 _ n hn).1;omega)).mono ?_
  rintro e w' ⟨ad,ab,q1,q2,q3⟩
  refine⟨ex++ad,ab,q1,?_⟩
  show _/\_
  rw[zm0 s k hk,Tr.grow_snoc,<-xY]
  exact⟨q2,q3⟩
 have ae:Y (s.data.toList.take s.size=s.data.toList):=by show _=_;rw[<-R.size_eq];exact List.take_length
 clear h ag af hi
 go_enter Tryz.func116,Tryz.ntmps116
 go_wp2_with fail
 go_loopw [5,10] (fun hv iv wr=>∃k:Nat,k<=s.size/\iv = .int .i64 k/\∃ex b',hv = .pointer (some ⟨b',0,none⟩)/\Y (Ar w0 wr (aa++ex) (Tr.grow ns i (s.data.toList.take k)).1/\(aa++ex)[(Tr.grow ns i (s.data.toList.take k)).2]?=some b')) (fun _ iv _=>s.size - (intOf iv).toNat)
 case atStart=>exact⟨0,zl _,rfl,[],b,rfl,HZ⟩
 case round=>
  obtain⟨k,al,rfl,ex,b',rfl,HW⟩:=hrel
  clear HZ
  by_cases aj:k<s.size
  ·have ak:(k:Int)<s.size:=by omega
   have HC:=hid (HN.o k aj wr ex b' HW.o.1 HW.o.2)
   clear HN ae HW
   go_wp2_with fail
   refine HC.o.mono ?_
   rintro e w' ⟨ad,ab,rfl,ah⟩
   clear HC
   go_wp2_with fail
   go_roundw
   case rel=>exact⟨k+1,by omega,by go_num,ad,ab,rfl,ah⟩
   case measure=>simp[intOf];omega
  ·have hE:k=s.size:=by omega
   subst hE
   rw[ae.o] at HW
   clear HN
   go_wp2
   go_ret
   exact⟨ex,b',rfl,HW.o.1,HW.o.2⟩
structure Tr.Ins where
 kind:Nat
 rule:Nat
 on:UInt8
 dst:Nat
deriving DecidableEq
def Tr.Ins.cells (x:Tr.Ins):List Value:=[.int .i64 x.kind,.int .i64 x.rule,.int .u8 x.on.toNat,.int .i64 x.dst]
def Tr.insCells (p:List Tr.Ins):List Value:=(p.map Tr.Ins.cells).flatten
theorem Tr.insCells_snoc (p:List Tr.Ins)(x:Tr.Ins):Tr.insCells (p++[x])=Tr.insCells p++[.int .i64 x.kind,.int .i64 x.rule,.int .u8 x.on.toNat,.int .i64 x.dst]:=by
 unfold Tr.insCells;rw[xy,jt];rfl
theorem Tr.insCells_set (q:List Tr.Ins):∀(j:Nat) (x:Tr.Ins) (d:Nat),q[j]?=some x->Tr.insCells (q.set j { x with dst:=d })=(Tr.insCells q).set (j*4+3) (.int .i64 d):=by
 induction q with
 | nil=>intro j x d h;simp at h
 | cons y t ih=>
  intro j x d h
  match j with
  | 0=>
   have e:y=x:=by simpa using h
   subst e
   rfl
  | j+1=>
   have h':t[j]?=some x:=by simpa using h
   have h1:=ih j x d h'
   show Tr.Ins.cells y++Tr.insCells (t.set j _)=(Tr.Ins.cells y++Tr.insCells t).set ((j+1)*4+3) _
   rw[h1,List.set_append_right _ _ (by show 4<=_;omega)]
   have e:(j+1)*4+3 - (Tr.Ins.cells y).length=j*4+3:=by show _ - 4=_;omega
   rw[e]
def Tr.aim (q:List Tr.Ins)(j:Nat):List Tr.Ins:=
 match q[j]? with
 | none=>q
 | some x=>q.set j { x with dst:=q.length }
theorem Tr.aim_len (q:List Tr.Ins)(j:Nat):(Tr.aim q j).length=q.length:=by
 unfold Tr.aim;split
 ·rfl
 ·rw[List.length_set]
theorem Tr.aim_cells (q:List Tr.Ins)(j:Nat)(h:j<q.length):Tr.insCells (Tr.aim q j)=(Tr.insCells q).set (j*4+3) (.int .i64 q.length):=by
 have e:q[j]?=some q[j]:=qN h
 unfold Tr.aim
 rw[e]
 exact Tr.insCells_set q j q[j] q.length e
def Tr.note (k:Nat):Tr.Ins:=⟨0,k,0,0⟩
def Tr.step (c:UInt8):Tr.Ins:=⟨1,0,c,0⟩
def Tr.jump:Tr.Ins:=⟨2,0,0,0⟩
def Tr.lay (ns:List Tr.Nd):Nat->Nat->List Tr.Ins->List Tr.Ins
 | 0,_,p=>p
 | f+1,i,p=>
  match ns[i]? with
  | none=>p
  | some n=>n.br.foldl (fun q x=>Tr.aim (Tr.lay ns f x.2 (q++[Tr.step x.1])) q.length) (p++n.rules.map Tr.note)++[Tr.jump]
def Tr.laid (ns:List Tr.Nd)(f:Nat)(p:List Tr.Ins)(l:List (UInt8×Nat)):List Tr.Ins:=l.foldl (fun q x=>Tr.aim (Tr.lay ns f x.2 (q++[Tr.step x.1])) q.length) p
theorem Tr.laid_snoc (ns:List Tr.Nd)(f:Nat)(p:List Tr.Ins)(l:List (UInt8×Nat))(x:UInt8×Nat):Tr.laid ns f p (l++[x])=Tr.aim (Tr.lay ns f x.2 (Tr.laid ns f p l++[Tr.step x.1])) (Tr.laid ns f p l).length:=by
 unfold Tr.laid;rw[List.foldl_append];rfl
theorem Tr.laid_len_of {ns:List Tr.Nd}{f:Nat}(h:∀i p,p.length<=(Tr.lay ns f i p).length)(l:List (UInt8×Nat)):∀p,p.length<=(Tr.laid ns f p l).length:=by
 induction l with
 | nil=>intro p;exact zZ _
 | cons x t ih=>
  intro p
  have h1:=h x.2 (p++[Tr.step x.1])
  have h2:=ih (Tr.aim (Tr.lay ns f x.2 (p++[Tr.step x.1])) p.length)
  rw[Tr.aim_len] at h2
  rw[zW] at h1
  show _<=(Tr.laid ns f (Tr.aim (Tr.lay ns f x.2 (p++[Tr.step x.1])) p.length) t).length
  omega
theorem Tr.lay_len (ns:List Tr.Nd)(f:Nat):∀i p,p.length<=(Tr.lay ns f i p).length:=by
 induction f with
 | zero=>intro i p;exact zZ _
 | succ f ih=>
  intro i p
  unfold Tr.lay
  split
  ·exact zZ _
  ·rename_i n hn
   have h1:=Tr.laid_len_of ih n.br (p++n.rules.map Tr.note)
   rw[zW] at h1
   show _<=(Tr.laid ns f (p++n.rules.map Tr.note) n.br++[Tr.jump]).length
   rw[zW]
   omega
theorem Tr.laid_len (ns:List Tr.Nd)(f:Nat)(p:List Tr.Ins)(l:List (UInt8×Nat))(k:Nat):(Tr.laid ns f p (l.take k)).length<=(Tr.laid ns f p l).length:=by
 have e:Tr.laid ns f p l=Tr.laid ns f (Tr.laid ns f p (l.take k)) (l.drop k):=by
  unfold Tr.laid;rw[<-List.foldl_append,List.take_append_drop]
 rw[e]
 exact Tr.laid_len_of (Tr.lay_len ns f) _ _
theorem Tr.lay_eq {ns:List Tr.Nd}{i:Nat}{n:Tr.Nd}(h:ns[i]?=some n)(f:Nat)(p:List Tr.Ins):Tr.lay ns (f+1) i p=Tr.laid ns f (p++n.rules.map Tr.note) n.br++[Tr.jump]:=by
 unfold Tr.lay;rw[h];rfl
def Nk (w w':World):Prop:=∀k:Nat,(∃cs t,w.heap[k]?=some (.cells cs t (0,0))/\t∈ndTypes)->w'.heap[k]?=w.heap[k]?
theorem Nk.refl (w:World):Nk w w:=fun _ _=>rfl
theorem Nk.trans {w x y:World}(h1:Nk w x)(h2:Nk x y):Nk w y:=fun k hk=>by
 have e:=h1 k hk
 obtain⟨cs,t,q1,q2⟩:=hk
 exact(h2 k ⟨cs,t,e.trans q1,q2⟩).trans e
theorem Nk.grown {w w':World}(g:w.grownBy w' none):Nk w w':=fun k ⟨_,_,e,_⟩=>g.block k (zE e) (by simp)
theorem Nk.row {w w':World}{B:Nat}{e:TypeId}{s:Nat}{v:Value}{n:Nat}{xs:List Value}(h:w.ownsRow B e s v n xs)(he:e ∉ ndTypes)(g:w.grownBy w' v.ownBlock):Nk w w':=fun k ⟨cs,t,q1,q2⟩=>by
 refine g.block k (zE q1) (fun e2=>?_)
 obtain⟨c,q3⟩:=qH h k e2.symm
 rw[q1] at q3
 simp only[Option.some.injEq,Obj.cells.injEq] at q3
 exact he (q3.2.1 ▸ q2)
theorem Ar.nk {w0 w w':World}{aa:List Nat}{ns:List Tr.Nd}(h:Ar w0 w aa ns)(hk:Nk w w')(g:w0.grownBy w' none):Ar w0 w' aa ns:=h.keep g hk
theorem zn4 {w w':World}{B:Nat}{e:TypeId}{s:Nat}{v:Value}{n:Nat}{xs:List Value}(h:w.ownsRow B e s v n xs)(he:e∈ndTypes)(hk:Nk w w'):w'.ownsRow B e s v n xs:=
 tB h (fun k q=>by obtain⟨c,e1⟩:=qH h k q;exact hk k ⟨_,_,e1,he⟩)
theorem jG {w w0:World}{af:Array Oper}{rest:List Oper}{o:Oper}{ac:Act}{Q:Exit->Act->World->Prop}(ag:o.guard=none)(s x:Operand)(t e:TypeId)
  (ho:o.op = .call { callee:=.builtin .append,args:=#[s,x],argTypes:=#[t,t] }) {z:Value} {n aa:Nat} (ht:(Tryz.prog).underlying t=some (.slice e)) (hi:((Tryz.prog).info? e).map (fun i=>(i.zero,i.size,i.bytes))=some (some z,n,aa))
  (ak:z.cells.size=n) (hn:0<n) (hb:aa<=1000) {a:Option Addr} {k m:Nat} {xs:List Value} (hs:ac.eval s = .slice a m k) (h:Rw w0 w e n a k m xs) (ad:Addr) (c:Nat) (ys:List Value) (hx:ac.eval x = .slice (some ad) 1 c)
  (hl:ys.length=n) (hc:∀j u,ys[j]?=some u->w.cell? (ad.add j)=some u) (h1:∀u∈ys,u.oneCell'=true) (hm:m<=100000000) (he:e ∉ ndTypes)
  (hK:∀a' k' w',Y (Rw w0 w' e n a' k' (m+1) (xs++ys))->Y (Nk w w')->wpList Tryz.prog af Q rest (ac.put o.dst (.slice a' (m+1) k')) w'):wpList Tryz.prog af Q (o :: rest) ac w:=by
 obtain⟨i0,hi,ah,ai,aj⟩:=info_parts hi
 refine wpList_append_own w ag s x t ho w0.heap.size e i0 z n aa ht hi ah ai aj ak hn _ _ _ hs h.own ad 1 c ys hx (by rw[hl,Nat.one_mul]) hc h1 (by unfold maxLen;omega) (zp (Nat.mul_le_mul (show m+1<=100000001 by omega) hb) (by decide)) h.gr.size ?_
 intro v' w' ae ab _
 obtain⟨a',k',rfl⟩:=zP ae
 exact hK a' k' w' ⟨ae,x9 h.gr ab (fun k hk=>(qh h.own k hk).1)⟩ (Nk.row h.own he ab)
theorem fV:(Tryz.prog.info? 297).map (fun i=>(i.zero,i.size,i.bytes))=some (some (.agg #[.int .i64 0,.int .i64 0,.int .u8 0,.int .i64 0]),4,32):=by kernel_rfl
structure Ly (w0 w wr:World) (a:Option Addr) (k:Nat) (p:List Tr.Ins):Prop where
 row:Rw w0 wr 297 4 a k p.length (Tr.insCells p)
 nk:Nk w wr
theorem Ly.keep {w0 w wr wa:World}{a:Option Addr}{k:Nat}{p:List Tr.Ins}(h:Ly w0 w wr a k p)(g:wr.grownBy wa none):Ly w0 w wa a k p:=⟨h.row.keep g,h.nk.trans (Nk.grown g)⟩
theorem Ly.snoc {w0 w wr wa:World}{a a':Option Addr}{k k':Nat}{p:List Tr.Ins}{x:Tr.Ins}(h:Ly w0 w wr a k p)(h1:Rw w0 wa 297 4 a' k' (p.length+1) (Tr.insCells p++[.int .i64 x.kind,.int .i64 x.rule,.int .u8 x.on.toNat,.int .i64 x.dst]))(h2:Nk wr wa):Ly w0 w wa a' k' (p++[x]):=
 ⟨by rw[zW,Tr.insCells_snoc];exact h1,h.nk.trans h2⟩
theorem Ly.aim {w0 w wr:World}{g k:Nat}{p:List Tr.Ins}(h:Ly w0 w wr (some ⟨g,0,none⟩) k p)(j:Nat)(hj:j<p.length):Ly w0 w (wr.setCell ⟨g,j*4+3,none⟩ (.int .i64 p.length)) (some ⟨g,0,none⟩) k (Tr.aim p j):=by
 obtain⟨h1,h2⟩:=World.ownsRow.stored h.row.own (j*4+3) (.int .i64 p.length)
 have hg:=(qh h.row.own g rfl).1
 exact⟨⟨by rw[Tr.aim_len,Tr.aim_cells p j hj];exact h1,zY h.row.gr h2 hg⟩,h.nk.trans (Nk.row h.row.own (by decide) h2)⟩
theorem znO {w0:World}{aa:List Nat}{ns:List Tr.Nd}(aO:Tr.Ok ns){m:Nat}(aJ:Tr.Bd ns m)(hm:m<=1000000)(f:Nat):∀{w:World} {i b:Nat} {p:List Tr.Ins} {a:Option Addr} {k:Nat},Ar w0 w aa ns->aa[i]?=some b->ns.length<=i+f->Rw w0 w 297 4 a k p.length (Tr.insCells p)->(Tr.lay ns f i p).length<=10000000->
  Calls Tryz.prog 117 #[.pointer (some ⟨b,0,none⟩),.slice a p.length k] w fun e w'=>∃a' k',e = .returned (.slice a' (Tr.lay ns f i p).length k')/\Ly w0 w w' a' k' (Tr.lay ns f i p):=by
 induction f with
 | zero=>
  intro w i b p a k h hi hf
  have:=h.len
  have:=(List.getElem?_eq_some_iff.1 hi).1
  omega
 | succ f ih=>
  intro w i b p a k h hi hf hr hb
  obtain⟨n,hn,hN⟩:=h.here i b hi
  obtain⟨vr,vb,h1,h2,h3⟩:=hN.ex
  obtain⟨ra,rk,rfl⟩:=zP h2
  obtain⟨va,vk,rfl⟩:=zP h3
  have hl:=h.len
  have aY:=aJ i n hn
  have ax:=hid (Tr.lay_eq hn f p)
  have e9:=Tr.lay_eq hn f p
  rw[e9] at hb
  have aT:(Tr.laid ns f (p++n.rules.map Tr.note) n.br).length+1<=10000000:=by rw[zW] at hb;exact hb
  have aI:(p++n.rules.map Tr.note).length<=(Tr.laid ns f (p++n.rules.map Tr.note) n.br).length:=Tr.laid_len_of (Tr.lay_len ns f) _ _
  have aS:p.length+n.rules.length<=10000000:=by rw[zW,qw] at aI;omega
  have am:=hid (Tr.laid_len ns f (p++n.rules.map Tr.note) n.br)
  have ak:Y (∀(j:Nat) (hj:j<n.br.length) wr a' k',Ly w0 w wr a' k' (Tr.laid ns f (p++n.rules.map Tr.note) (n.br.take j)++[Tr.step n.br[j].1])->Calls Tryz.prog 117 #[.pointer (some ⟨Tr.adr aa n.br[j].2,0,none⟩),.slice a' ((Tr.laid ns f (p++n.rules.map Tr.note) (n.br.take j)).length+1) k'] wr fun e w'=>∃an ao,e = .returned (.slice an (Tr.lay ns f n.br[j].2 (Tr.laid ns f (p++n.rules.map Tr.note) (n.br.take j)++[Tr.step n.br[j].1])).length ao)/\Y (Ly w0 w w' an ao (Tr.lay ns f n.br[j].2 (Tr.laid ns f (p++n.rules.map Tr.note) (n.br.take j)++[Tr.step n.br[j].1])))):=fun j hj wr a' k' hL=>by
   have hx:=aO i n hn n.br[j] (List.getElem_mem hj)
   have aD:n.br[j].2<aa.length:=by omega
   have aK:aa[n.br[j].2]?=some (Tr.adr aa n.br[j].2):=by rw[Tr.adr_at (qN aD)];exact qN aD
   have aN:(Tr.lay ns f n.br[j].2 (Tr.laid ns f (p++n.rules.map Tr.note) (n.br.take j)++[Tr.step n.br[j].1])).length<=10000000:=by
    have e1:=Tr.laid_snoc ns f (p++n.rules.map Tr.note) (n.br.take j) n.br[j]
    have e2:n.br.take j++[n.br[j]]=n.br.take (j+1):=by rw[List.take_add_one,qN hj];rfl
    rw[e2] at e1
    have e3:=Tr.laid_len ns f (p++n.rules.map Tr.note) n.br (j+1)
    rw[e1,Tr.aim_len] at e3
    omega
   have hc:=ih (h.nk hL.nk hL.row.gr) aK (by omega) hL.row aN
   rw[zW] at hc
   refine hc.mono ?_
   rintro e w' ⟨an,ao,q1,q2⟩
   exact⟨an,ao,q1,⟨q2.row,hL.nk.trans q2.nk⟩⟩
  have aj:Y (∀(j:Nat) (hj:j<n.br.length),Tr.aim (Tr.lay ns f n.br[j].2 (Tr.laid ns f (p++n.rules.map Tr.note) (n.br.take j)++[Tr.step n.br[j].1])) (Tr.laid ns f (p++n.rules.map Tr.note) (n.br.take j)).length=Tr.laid ns f (p++n.rules.map Tr.note) (n.br.take (j+1))):=fun j hj=>by
   rw[<-Tr.laid_snoc,List.take_add_one,qN hj];rfl
  have al:Y (∀(j:Nat) (hj:j<n.br.length),(Tr.laid ns f (p++n.rules.map Tr.note) (n.br.take j)).length+1<=(Tr.lay ns f n.br[j].2 (Tr.laid ns f (p++n.rules.map Tr.note) (n.br.take j)++[Tr.step n.br[j].1])).length):=fun j hj=>by
   have:=Tr.lay_len ns f n.br[j].2 (Tr.laid ns f (p++n.rules.map Tr.note) (n.br.take j)++[Tr.step n.br[j].1])
   rw[zW] at this;exact this
  have H1:=hid h1
  have H2:=hid h2
  have H3:=hid h3
  have HZ:Y (Ly w0 w w a k (p++(n.rules.take 0).map Tr.note)):=⟨by rw[List.take_zero,List.map_nil,xn];exact hr,Nk.refl _⟩
  have ay:Y (n.rules.take n.rules.length=n.rules):=List.take_length
  have aG:Y (n.br.take n.br.length=n.br):=List.take_length
  have k0:w.cell? ⟨b,0,none⟩=some (.slice ra n.rules.length rk):=z8 h1
  have e0:(p++(n.rules.take 0).map Tr.note).length=p.length:=by rw[List.take_zero,List.map_nil,xn]
  have av:=hid e0
  clear h hi hf hr hb e9 hn hN h1 h2 h3 ih hl e0
  generalize Tr.lay ns (f+1) i p=res at*
  go_enter Tryz.func117,Tryz.ntmps117
  go_wp2_with fail
  go_loopw [1,15] (fun pv iv wr=>∃j:Nat,j<=n.rules.length/\iv = .int .i64 j/\∃a' k',pv = .slice a' (p++(n.rules.take j).map Tr.note).length k'/\Y (Ly w0 w wr a' k' (p++(n.rules.take j).map Tr.note))) (fun _ iv _=>n.rules.length - (intOf iv).toNat)
  case atStart=>exact⟨0,zl _,rfl,a,k,by rw[av.o],HZ⟩
  case round=>
   obtain⟨j,aM,rfl,a',k',rfl,HW⟩:=hrel
   clear HZ av
   by_cases af:j<n.rules.length
   ·have aL:(j:Int)<n.rules.length:=by omega
    have ae:=hid (zn4 H2.o (by decide) HW.o.nk)
    obtain⟨g,gc,e1,_,_⟩:=World.ownsRow.form ae.o (by omega)
    simp only[qc,true_and] at e1
    obtain⟨rfl,rfl⟩:=e1
    have d0:wr.cell? ⟨g,j,none⟩=some (.int .i64 (n.rules[j]:Int)):=by
     rw[xd ae.o j (by omega)]
     unfold Tr.ruCells
     rw[List.getElem?_map,qN af];rfl
    have aU:(p++(n.rules.take j).map Tr.note).length<=10000000:=by rw[zW,qw,List.length_take];omega
    have HT:Y (p++(n.rules.take (j+1)).map Tr.note=(p++(n.rules.take j).map Tr.note)++[Tr.note n.rules[j]]):=by
     show _=_;rw[List.take_add_one,qN af,xy,<-xY];rfl
    generalize p++(n.rules.take j).map Tr.note=q at*
    generalize n.rules[j]=x at*
    have HC:=hid (qI wr #[.int .i64 0,.int .i64 (x:Int),.int .u8 0,.int .i64 0] 297 _ rfl)
    have ab:=hid (HW.o.keep (zJ wr (.cells #[.int .i64 0,.int .i64 (x:Int),.int .u8 0,.int .i64 0] 297) none))
    clear ak aj al ae
    go_wp2_with (at_builtin;refine @jG _ _ _ _ _ _ _ rfl _ _ 158 297 rfl _ _ _ Tryz.underlying158 fV rfl (by decide) (by decide) _ _ _ _ rfl ab.o.row ⟨wr.heap.size,0,none⟩ _ [.int .i64 0,.int .i64 (x:Int),.int .u8 0,.int .i64 0] rfl rfl HC.o (fun u hu=>by simp at hu;rcases hu with rfl | rfl | rfl | rfl <;> rfl) (by omega) (by decide) ?_)
    intro a3 k3 w3 ag ad
    have ah:Y (Ly w0 w w3 a3 k3 (q++[Tr.note x])):=ab.o.snoc (x:=Tr.note x) ag.o ad.o
    clear HC HW ab ag ad d0
    go_wp2_with fail
    go_roundw
    case rel=>exact⟨j+1,by omega,by go_num,a3,k3,by rw[HT.o,zW];rfl,by rw[HT.o];exact ah⟩
    case measure=>simp[intOf];omega
   ·have hE:j=n.rules.length:=by omega
    subst hE
    rw[ay.o] at HW ⊢
    have aA:Y (Ly w0 w wr a' k' (Tr.laid ns f (p++n.rules.map Tr.note) (n.br.take 0))):=HW.o
    have kb:wr.cell? ⟨b,1,none⟩=some (.slice va n.br.length vk):=z8 ((HW.o.nk b ⟨_,_,H1.o,by decide⟩).trans H1.o)
    have aw:Y ((p++n.rules.map Tr.note).length=(Tr.laid ns f (p++n.rules.map Tr.note) (n.br.take 0)).length):=rfl
    clear HW ay k0
    rw[aw.o]
    clear aw
    generalize aP:p++n.rules.map Tr.note=pp at*
    clear aP
    generalize wr=w1 at*
    go_wp2_with fail
    go_loopw [1,30] (fun pv iv wr=>∃j:Nat,j<=n.br.length/\iv = .int .i64 j/\∃a' k',pv = .slice a' (Tr.laid ns f pp (n.br.take j)).length k'/\Y (Ly w0 w wr a' k' (Tr.laid ns f pp (n.br.take j)))) (fun _ iv _=>n.br.length - (intOf iv).toNat)
    case atStart=>exact⟨0,zl _,rfl,a',k',rfl,aA⟩
    case round=>
     obtain⟨j,aM,rfl,a2,k2,rfl,HW⟩:=hrel
     clear aA kb
     by_cases af:j<n.br.length
     ·have aL:(j:Int)<n.br.length:=by omega
      have ae:=hid (zn4 H3.o (by decide) HW.o.nk)
      obtain⟨g,gc,e1,_,_⟩:=World.ownsRow.form ae.o (by omega)
      simp only[qc,true_and] at e1
      obtain⟨rfl,rfl⟩:=e1
      have d0:wr.cell? ⟨g,j*2,none⟩=some (.int .u8 n.br[j].1.toNat):=qO (Tr.brCell aa) 2 (fun _=>rfl) ae.o (zM _ _) j 0 af (by omega) rfl
      have d1:wr.cell? ⟨g,j*2+1,none⟩=some (.pointer (some ⟨Tr.adr aa n.br[j].2,0,none⟩)):=qO (Tr.brCell aa) 2 (fun _=>rfl) ae.o (zM _ _) j 1 af (by omega) rfl
      have HI:=hid (ak.o j af)
      have HA:=hid (aj.o j af)
      have aW:=al.o j af
      have aV:=am.o j
      have aX:(Tr.lay ns f n.br[j].2 (Tr.laid ns f pp (n.br.take j)++[Tr.step n.br[j].1])).length<=10000000:=by
       have e3:=am.o (j+1)
       rw[<-HA.o,Tr.aim_len] at e3
       omega
      generalize n.br[j]=x at*
      generalize Tr.laid ns f pp (n.br.take j)=q at*
      generalize Tr.lay ns f x.2 (q++[Tr.step x.1])=r at*
      have HB:=hid (heap_alloc_new wr (.cells #[.int .u8 x.1.toNat,.pointer (some ⟨Tr.adr aa x.2,0,none⟩)] 299))
      have az:=hid (HW.o.keep (zJ wr (.cells #[.int .u8 x.1.toNat,.pointer (some ⟨Tr.adr aa x.2,0,none⟩)] 299) none))
      have q0:(wr.alloc (.cells #[.int .u8 x.1.toNat,.pointer (some ⟨Tr.adr aa x.2,0,none⟩)] 299)).cell? ⟨wr.heap.size,0,none⟩=some (.int .u8 x.1.toNat):=z8 HB.o
      go_upto_region 9 with fail
      clear ak aj al am ae d0 d1 HW
      have aC:∀(W:World),W=wr.alloc (.cells #[.int .u8 x.1.toNat,.pointer (some ⟨Tr.adr aa x.2,0,none⟩)] 299)->W.heap[wr.heap.size]?=some (.cells #[.int .u8 x.1.toNat,.pointer (some ⟨Tr.adr aa x.2,0,none⟩)] 299):=fun W e=>by rw[e];exact HB.o
      have ar:=hid (aC _ rfl)
      clear aC HB
      generalize wr.alloc (.cells #[.int .u8 x.1.toNat,.pointer (some ⟨Tr.adr aa x.2,0,none⟩)] 299)=wa at*
      generalize wr.heap.size=bb at*
      have HC:=hid (qI wa #[.int .i64 1,.int .i64 0,.int .u8 x.1.toNat,.int .i64 0] 297 _ rfl)
      have ab:=hid (az.o.keep (zJ wa (.cells #[.int .i64 1,.int .i64 0,.int .u8 x.1.toNat,.int .i64 0] 297) none))
      have ap:=hid (zB ar.o (zJ wa (.cells #[.int .i64 1,.int .i64 0,.int .u8 x.1.toNat,.int .i64 0] 297) none) (by simp))
      go_wp2_with (at_builtin;refine @jG _ _ _ _ _ _ _ rfl _ _ 158 297 rfl _ _ _ Tryz.underlying158 fV rfl (by decide) (by decide) _ _ _ _ rfl ab.o.row ⟨wa.heap.size,0,none⟩ _ [.int .i64 1,.int .i64 0,.int .u8 x.1.toNat,.int .i64 0] rfl rfl HC.o (fun u hu=>by simp at hu;rcases hu with rfl | rfl | rfl | rfl <;> rfl) (by omega) (by decide) ?_)
      intro a3 k3 w3 ag ad
      have aQ:w3.cell? ⟨bb,1,none⟩=some (.pointer (some ⟨Tr.adr aa x.2,0,none⟩)):=z8 ((ad.o bb ⟨_,_,ap.o,by decide⟩).trans ap.o)
      have ah:Y (Ly w0 w w3 a3 k3 (q++[Tr.step x.1])):=ab.o.snoc (x:=Tr.step x.1) ag.o ad.o
      have au:=hid (HI.o w3 a3 k3 ah.o)
      clear HC az ab ag ad HI ar ap q0 ah
      go_wp2_with fail
      refine au.o.mono ?_
      rintro e w4 ⟨a4,k4,rfl,ai⟩
      clear au aQ
      obtain⟨g4,aR,e4,_,_⟩:=World.ownsRow.form ai.o.row.own (by omega)
      simp only[qc,true_and] at e4
      obtain⟨rfl,rfl⟩:=e4
      have aZ:(q.length:Int)<r.length:=by omega
      have aB:Y (∃u,w4.cell? ⟨g4,q.length*4+3,none⟩=some u):=by
       refine⟨_,(xd ai.o.row.own (q.length*4+3) (by omega)).trans (qN ?_)⟩
       have:(Tr.insCells r).length=r.length*4:=by
        have:=ai.o.row.own.1
        exact this
       omega
      obtain⟨u4,c4⟩:=aB.o
      have f4:w4.frozen? ⟨g4,q.length*4+3,none⟩=false:=World.ownsRow.frozenAt ai.o.row.own _
      have aH:=hid (ai.o.aim q.length (by omega))
      have aF:=hid (Tr.aim_len r q.length)
      clear ai aB
      go_wp2_with fail
      go_roundw
      case rel=>exact⟨j+1,by omega,by go_num,some ⟨g4,0,none⟩,k4,by rw[<-HA.o,aF.o],by rw[<-HA.o];exact aH⟩
      case measure=>simp[intOf];omega
     ·have hE:j=n.br.length:=by omega
      subst hE
      rw[aG.o] at HW ⊢
      have aq:Y (res=Tr.laid ns f pp n.br++[Tr.jump]):=ax.o
      clear ak aj al am ax
      generalize Tr.laid ns f pp n.br=q at*
      have HC:=hid (qI wr #[.int .i64 2,.int .i64 0,.int .u8 0,.int .i64 0] 297 _ rfl)
      have ab:=hid (HW.o.keep (zJ wr (.cells #[.int .i64 2,.int .i64 0,.int .u8 0,.int .i64 0] 297) none))
      go_wp2_with (at_builtin;refine @jG _ _ _ _ _ _ _ rfl _ _ 158 297 rfl _ _ _ Tryz.underlying158 fV rfl (by decide) (by decide) _ _ _ _ rfl ab.o.row ⟨wr.heap.size,0,none⟩ _ [.int .i64 2,.int .i64 0,.int .u8 0,.int .i64 0] rfl rfl HC.o (fun u hu=>by simp at hu;rcases hu with rfl | rfl | rfl | rfl <;> rfl) (by omega) (by decide) ?_)
      intro a3 k3 w3 ag ad
      have ah:Y (Ly w0 w w3 a3 k3 res):=by rw[aq.o];exact ab.o.snoc (x:=Tr.jump) ag.o ad.o
      have aE:Y (res.length=q.length+1):=by show _=_;rw[aq.o,zW];rfl
      clear HC HW ab ag ad aq
      go_wp2
      go_ret
      exact⟨a3,k3,by rw[aE.o];rfl,ah.o⟩
def Tr.aim1 (n:Nat)(x:Tr.Ins):Tr.Ins:=if x.kind=2 then { x with dst:=n } else x
def Tr.aimAll (p:List Tr.Ins):List Tr.Ins:=p.map (Tr.aim1 p.length)
def Tr.mid (p:List Tr.Ins)(i:Nat):List Tr.Ins:=(p.take i).map (Tr.aim1 p.length)++p.drop i
theorem Tr.mid_all (p:List Tr.Ins):Tr.mid p p.length=Tr.aimAll p:=by unfold Tr.mid Tr.aimAll;rw[List.take_length,List.drop_length,xn]
theorem Tr.mid_at (p:List Tr.Ins)(i:Nat)(h:i<p.length):(Tr.mid p i)[i]?=some p[i]:=by
 unfold Tr.mid
 rw[List.getElem?_append_right (by rw[qw,List.length_take];omega),qw,List.length_take,List.getElem?_drop]
 have e:i+(i - min i p.length)=i:=by omega
 rw[e,qN h]
theorem Tr.mid_step (p:List Tr.Ins)(i:Nat)(h:i<p.length):Tr.mid p (i+1)=(Tr.mid p i).set i (Tr.aim1 p.length p[i]):=by
 unfold Tr.mid
 rw[List.set_append_right _ _ (by rw[qw,List.length_take];omega),qw,List.length_take]
 have e:i - min i p.length=0:=by omega
 have e2:=List.drop_eq_getElem_cons h
 rw[e,e2,List.take_add_one,qN h,xy,xY]
 rfl
theorem Tr.insCells_at {p:List Tr.Ins}{i:Nat}{x:Tr.Ins}(h:p[i]?=some x)(j:Nat)(hj:j<4):(Tr.insCells p)[i*4+j]?=(Tr.Ins.cells x)[j]?:=by
 induction p generalizing i with
 | nil=>simp at h
 | cons y t ih=>
  match i with
  | 0=>
   have e:y=x:=by simpa using h
   subst e
   show(Tr.Ins.cells y++Tr.insCells t)[0*4+j]?=_
   rw[List.getElem?_append_left (by show _<4;omega)];congr 1;omega
  | i+1=>
   show(Tr.Ins.cells y++Tr.insCells t)[(i+1)*4+j]?=_
   rw[List.getElem?_append_right (by show 4<=_;omega)]
   have e:(i+1)*4+j - (Tr.Ins.cells y).length=i*4+j:=by show _ - 4=_;omega
   rw[e]
   exact ih (by simpa using h)
theorem znM {w0 w:World}{a:Option Addr}{k:Nat}{p:List Tr.Ins}(h:Rw w0 w 297 4 a k p.length (Tr.insCells p))(hl:p.length<=100000000) :
  Calls Tryz.prog 118 #[.slice a p.length k] w fun e w'=>e = .returned (.tuple #[])/\Rw w0 w' 297 4 a k p.length (Tr.insCells (Tr.aimAll p)):=by
 have HZ:Y (Rw w0 w 297 4 a k p.length (Tr.insCells (Tr.mid p 0))):=h
 have HM:=hid (Tr.mid_all p)
 clear h
 go_enter Tryz.func118,Tryz.ntmps118
 go_wp2_with fail
 go_loopw [5] (fun iv wr=>∃i:Nat,i<=p.length/\iv = .int .i64 i/\Y (Rw w0 wr 297 4 a k p.length (Tr.insCells (Tr.mid p i)))) (fun iv _=>p.length - (intOf iv).toNat)
 case atStart=>exact⟨0,zl _,rfl,HZ⟩
 case round=>
  obtain⟨i,ag,rfl,HW⟩:=hrel
  clear HZ
  by_cases ad:i<p.length
  ·have af:(i:Int)<p.length:=by omega
   obtain⟨g,gc,e1,_,_⟩:=World.ownsRow.form HW.o.own (by omega)
   simp only[qc,true_and] at e1
   obtain⟨rfl,rfl⟩:=e1
   have HA:=hid (Tr.mid_at p i ad)
   have aa:∀j,j<4->wr.cell? ⟨g,i*4+j,none⟩=(Tr.Ins.cells p[i])[j]?:=fun j hj=>(xd HW.o.own (i*4+j) (by omega)).trans (Tr.insCells_at HA.o j hj)
   have d0:wr.cell? ⟨g,i*4,none⟩=some (.int .i64 p[i].kind):=aa 0 (by omega)
   have d3:wr.cell? ⟨g,i*4+3,none⟩=some (.int .i64 p[i].dst):=aa 3 (by omega)
   have f3:wr.frozen? ⟨g,i*4+3,none⟩=false:=World.ownsRow.frozenAt HW.o.own _
   have HS:=hid (Tr.mid_step p i ad)
   have HX:=hid (rfl:p[i]=p[i])
   by_cases hk:p[i].kind=2
   ·have ae:(p[i].kind:Int)=2:=by omega
    obtain⟨q1,q2⟩:=World.ownsRow.stored HW.o.own (i*4+3) (.int .i64 p.length)
    have ab:Y (Rw w0 (wr.setCell ⟨g,i*4+3,none⟩ (.int .i64 p.length)) 297 4 (some ⟨g,0,none⟩) k p.length (Tr.insCells (Tr.mid p (i+1)))):=by
     refine⟨?_,zY HW.o.gr q2 (qh HW.o.own g rfl).1⟩
     rw[HS.o]
     unfold Tr.aim1
     rw[if_pos hk,Tr.insCells_set _ _ _ _ HA.o]
     exact q1
    clear q1 q2 HW aa HX HA HS hk
    generalize p[i].kind=kd at*
    generalize p[i].dst=ds at*
    go_wp2_with fail
    go_roundw
    case rel=>exact⟨i+1,by omega,by go_num,ab⟩
    case measure=>simp[intOf];omega
   ·have ae:¬((p[i].kind:Int)=2):=by omega
    have ab:Y (Rw w0 wr 297 4 (some ⟨g,0,none⟩) k p.length (Tr.insCells (Tr.mid p (i+1)))):=by
     have e:Tr.mid p (i+1)=Tr.mid p i:=by
      rw[HS.o]
      unfold Tr.aim1
      rw[if_neg hk]
      obtain⟨h1,h2⟩:=List.getElem?_eq_some_iff.1 HA.o
      rw[<-h2,List.set_getElem_self]
     rw[e];exact HW.o
    clear HW aa HX HA HS hk
    generalize p[i].kind=kd at*
    generalize p[i].dst=ds at*
    go_wp2_with fail
    go_roundw
    case rel=>exact⟨i+1,by omega,by go_num,ab⟩
    case measure=>simp[intOf];omega
  ·have hE:i=p.length:=by omega
   subst hE
   rw[HM.o] at HW
   go_wp2
   go_end0
   exact⟨rfl,HW.o⟩
end Go.Proofs.YtfocdefchbnkpaaGreatDoor
