/- Routes, as the program lays them: the nodes of the trie in memory. -/
import Derived.Test.YtfocdefchbnkpaaGreatDoorAli
import Derived.Test.YtfocdefchbnkpaaGreatDoorRqN
set_option maxRecDepth 100000
set_option maxHeartbeats 20000000
namespace Go.Proofs.YtfocdefchbnkpaaGreatDoor
open Go.RowKit
structure Tr.Nd where
 rules:List Nat
 br:List (UInt8×Nat)
def Tr.adr (ads:List Nat)(i:Nat):Nat:=ads.getD i 0
theorem Tr.adr_at {aa:List Nat}{i b:Nat}(h:aa[i]?=some b):Tr.adr aa i=b:=by unfold Tr.adr;rw[List.getD_eq_getElem?_getD,h];rfl
def Tr.brCell (ads:List Nat)(x:UInt8×Nat):List Value:=[.int .u8 x.1.toNat,.pointer (some ⟨Tr.adr ads x.2,0,none⟩)]
def Tr.brCells (ads:List Nat)(l:List (UInt8×Nat)):List Value:=(l.map (Tr.brCell ads)).flatten
def Tr.ruCells (l:List Nat):List Value:=l.map fun n:Nat=>.int .i64 (n:Int)
def Tr.Ok (ns:List Tr.Nd):Prop:=∀(i:Nat) n,ns[i]?=some n->∀x∈n.br,i<x.2/\x.2<ns.length
def ndTypes:List TypeId:=[230,3,299]
structure NdAt (w:World) (B:Nat) (ads:List Nat) (b:Nat) (n:Tr.Nd):Prop where
 ex:∃vr vb,w.heap[b]?=some (.cells #[vr,vb] 230 (0,0))/\w.ownsRow B 3 1 vr n.rules.length (Tr.ruCells n.rules)/\w.ownsRow B 299 2 vb n.br.length (Tr.brCells ads n.br)
 low:B<=b
theorem NdAt.hf {w:World}{B b k:Nat}{aa:List Nat}{n:Tr.Nd}(h:NdAt w B aa b n)(hk:HF w b k):B<=k/\∃cs t,w.heap[k]?=some (.cells cs t (0,0))/\t∈ndTypes:=by
 obtain⟨vr,vb,h1,h2,h3⟩:=h.ex
 rcases hk with rfl | ⟨j,u,c1,c2⟩
 ·exact⟨h.low,_,_,h1,by decide⟩
 ·rw[z8 h1] at c1
  have hd:u=vr\/u=vb:=by
   match j,c1 with
   | 0,c1=>simp at c1;exact Or.inl c1.symm
   | 1,c1=>simp at c1;exact Or.inr c1.symm
   | j+2,c1=>simp at c1
  rcases hd with rfl | rfl
  ·obtain⟨c,e⟩:=qH h2 k c2
   exact⟨(qh h2 k c2).1,_,_,e,by decide⟩
  ·obtain⟨c,e⟩:=qH h3 k c2
   exact⟨(qh h3 k c2).1,_,_,e,by decide⟩
theorem NdAt.lt {w:World}{B b k:Nat}{aa:List Nat}{n:Tr.Nd}(h:NdAt w B aa b n)(hk:HF w b k):k<w.heap.size:=by
 obtain⟨_,cs,t,e,_⟩:=h.hf hk
 exact zE e
theorem tB {w w':World}{B:Nat}{e:TypeId}{s:Nat}{v:Value}{n:Nat}{xs:List Value}(ho:w.ownsRow B e s v n xs)(hk:∀k,v.ownBlock=some k->w'.heap[k]?=w.heap[k]?):w'.ownsRow B e s v n xs:=
 ⟨ho.1,ho.2.imp id fun⟨g,cap,cur,h1,h2,h3,h4⟩=>⟨g,cap,cur,h1,h2,by rw[hk g (by rw[h1];rfl)];exact h3,h4⟩⟩
theorem NdAt.keep {w w':World}{B b:Nat}{aa:List Nat}{n:Tr.Nd}(h:NdAt w B aa b n)(hk:∀k,HF w b k->w'.heap[k]?=w.heap[k]?):NdAt w' B aa b n/\∀k,HF w' b k->HF w b k:=by
 obtain⟨vr,vb,h1,h2,h3⟩:=h.ex
 have hb:=hk b (Or.inl rfl)
 exact⟨⟨⟨vr,vb,hb.trans h1,tB h2 (fun k q=>hk k (Or.inr ⟨0,vr,z8 h1,q⟩)),tB h3 (fun k q=>hk k (Or.inr ⟨1,vb,z8 h1,q⟩))⟩,h.low⟩,fun k q=>jo hb q⟩
theorem Tr.brCells_ext {aa:List Nat}{l:List (UInt8×Nat)}(h:∀x∈l,x.2<aa.length)(ex:List Nat):Tr.brCells (aa++ex) l=Tr.brCells aa l:=by
 unfold Tr.brCells
 induction l with
 | nil=>rfl
 | cons a t ih=>
  have h1:=h a (by simp)
  rw[xi,xi,xP,xP,ih (fun x hx=>h x (by simp[hx]))]
  have e:Tr.adr (aa++ex) a.2=Tr.adr aa a.2:=by unfold Tr.adr;rw[List.getD_eq_getElem?_getD,List.getD_eq_getElem?_getD,List.getElem?_append_left h1]
  unfold Tr.brCell
  rw[e]
theorem Tr.brCells_snoc (aa:List Nat)(l:List (UInt8×Nat))(x:UInt8×Nat):Tr.brCells aa (l++[x])=Tr.brCells aa l++[.int .u8 x.1.toNat,.pointer (some ⟨Tr.adr aa x.2,0,none⟩)]:=by
 unfold Tr.brCells;rw[xy,jt];rfl
structure Ar (w0 w:World) (ads:List Nat) (ns:List Tr.Nd):Prop where
 gr:w0.grownBy w none
 len:ads.length=ns.length
 here:∀i b:Nat,ads[i]?=some b->∃n,ns[i]?=some n/\NdAt w w0.heap.size ads b n
 apart:∀i j b b':Nat,i≠j->ads[i]?=some b->ads[j]?=some b'->∀k,HF w b k->¬HF w b' k
theorem Ar.keep {w0 w w':World}{aa:List Nat}{ns:List Tr.Nd}(h:Ar w0 w aa ns)(g:w0.grownBy w' none)(hk:∀k:Nat,(∃cs t,w.heap[k]?=some (.cells cs t (0,0))/\t∈ndTypes)->w'.heap[k]?=w.heap[k]?):Ar w0 w' aa ns:=by
 have kp:∀i b:Nat,aa[i]?=some b->(∃n,ns[i]?=some n/\NdAt w' w0.heap.size aa b n)/\∀k,HF w' b k->HF w b k:=fun i b hi=>by
  obtain⟨n,h1,h2⟩:=h.here i b hi
  obtain⟨q1,q2⟩:=h2.keep (fun k hF=>hk k (h2.hf hF).2)
  exact⟨⟨n,h1,q1⟩,q2⟩
 exact⟨g,h.len,fun i b hi=>(kp i b hi).1,fun i j b b' hij hi hj k q q'=>h.apart i j b b' hij hi hj k ((kp i b hi).2 k q) ((kp j b' hj).2 k q')⟩
theorem Ar.grown {w0 w w':World}{aa:List Nat}{ns:List Tr.Nd}(h:Ar w0 w aa ns)(g:w.grownBy w' none):Ar w0 w' aa ns:=
 h.keep (zA h.gr g) (fun k ⟨_,_,e,_⟩=>g.block k (zE e) (by simp))
theorem Ar.set {w0 w w':World}{aa:List Nat}{ns:List Tr.Nd}{i b:Nat}{n':Tr.Nd}(h:Ar w0 w aa ns)(hi:aa[i]?=some b)(m:HMv w w' b)(hn:NdAt w' w0.heap.size aa b n'):Ar w0 w' aa (ns.set i n'):=by
 obtain⟨n,ab,ad⟩:=h.here i b hi
 have hl:i<ns.length:=(List.getElem?_eq_some_iff.1 ab).1
 have kp:∀j b':Nat,j≠i->aa[j]?=some b'->(∃n,ns[j]?=some n/\NdAt w' w0.heap.size aa b' n)/\∀k,HF w' b' k->HF w b' k/\k<w.heap.size:=fun j b' hj hb=>by
  obtain⟨n2,h1,h2⟩:=h.here j b' hb
  obtain⟨q1,q2⟩:=h2.keep (w':=w') (fun k hF=>m.turn.block k (h2.lt hF) (fun q=>h.apart j i b' b hj hb hi k hF q))
  exact⟨⟨n2,h1,q1⟩,fun k q=>⟨q2 k q,h2.lt (q2 k q)⟩⟩
 refine⟨m.turn.grown h.gr (fun k q=>(ad.hf q).1),by rw[List.length_set];exact h.len,fun j b' hj=>?_,fun j j' c c' hne hj hj' k q q'=>?_⟩
 ·by_cases e:j=i
  ·subst e
   rw[hi] at hj
   have e2:b=b':=by simpa using hj
   subst e2
   exact⟨n',List.getElem?_set_self hl,hn⟩
  ·obtain⟨⟨n2,q1,q2⟩,_⟩:=kp j b' e hj
   exact⟨n2,by rw[List.getElem?_set_ne (fun e2=>e e2.symm)];exact q1,q2⟩
 ·by_cases e1:j=i
  ·subst e1
   rw[hi] at hj
   have e2:b=c:=by simpa using hj
   subst e2
   have q2:=(kp j' c' (fun e=>hne e.symm) hj').2 k q'
   rcases m.foot k q with q3 | q3
   ·exact h.apart j j' b c' hne hi hj' k q3 q2.1
   ·omega
  ·by_cases e2:j'=i
   ·subst e2
    rw[hi] at hj'
    have e3:b=c':=by simpa using hj'
    subst e3
    have q2:=(kp j c e1 hj).2 k q
    rcases m.foot k q' with q3 | q3
    ·exact h.apart j j' c b hne hj hi k q2.1 q3
    ·omega
   ·exact h.apart j j' c c' hne hj hj' k ((kp j c e1 hj).2 k q).1 ((kp j' c' e2 hj').2 k q').1
theorem zm5 (w:World)(k:Nat)(h:HF (w.alloc (.cells #[.slice none 0 0,.slice none 0 0] 230)) w.heap.size k):k=w.heap.size:=by
 rcases h with rfl | ⟨j,u,c1,c2⟩
 ·rfl
 ·rw[z8 (heap_alloc_new w (.cells #[.slice none 0 0,.slice none 0 0] 230))] at c1
  exfalso
  match j,c1 with
  | 0,c1=>simp at c1;subst c1;cases c2
  | 1,c1=>simp at c1;subst c1;cases c2
  | j+2,c1=>simp at c1
theorem Ar.new {w0 w:World}{aa:List Nat}{ns:List Tr.Nd}(h:Ar w0 w aa ns)(ae:Tr.Ok ns):Ar w0 (w.alloc (.cells #[.slice none 0 0,.slice none 0 0] 230)) (aa++[w.heap.size]) (ns++[⟨[],[]⟩]):=by
 have g:=zJ w (.cells #[.slice none 0 0,.slice none 0 0] 230) none
 have hl:=h.len
 have hs:=h.gr.size
 have kp:∀i b:Nat,aa[i]?=some b->(∃n,ns[i]?=some n/\NdAt (w.alloc (.cells #[.slice none 0 0,.slice none 0 0] 230)) w0.heap.size (aa++[w.heap.size]) b n)/\∀k,HF (w.alloc (.cells #[.slice none 0 0,.slice none 0 0] 230)) b k->HF w b k/\k<w.heap.size:=fun i b hi=>by
  obtain⟨n,h1,h2⟩:=h.here i b hi
  obtain⟨q1,q2⟩:=h2.keep (w':=w.alloc (.cells #[.slice none 0 0,.slice none 0 0] 230)) (fun k hF=>g.block k (h2.lt hF) (by simp))
  obtain⟨vr,vb,p1,p2,p3⟩:=q1.ex
  exact⟨⟨n,h1,⟨⟨vr,vb,p1,p2,by rw[Tr.brCells_ext (fun x hx=>by rw[hl];exact(ae i n h1 x hx).2)];exact p3⟩,q1.low⟩⟩,fun k q=>⟨q2 k q,h2.lt (q2 k q)⟩⟩
 have ab:∀i b:Nat,(aa++[w.heap.size])[i]?=some b->aa[i]?=some b\/(i=ns.length/\b=w.heap.size):=fun i b hi=>by
  by_cases ad:i<aa.length
  ·rw[List.getElem?_append_left ad] at hi;exact Or.inl hi
  ·rw[List.getElem?_append_right (by omega)] at hi
   have h9:=(List.getElem?_eq_some_iff.1 hi).1
   have e:i - aa.length=0:=by simpa using h9
   rw[e] at hi
   simp at hi
   exact Or.inr ⟨by omega,hi.symm⟩
 refine⟨zA h.gr g,by simp[hl],fun i b hi=>?_,fun i j b b' hij hi hj k q q'=>?_⟩
 ·rcases ab i b hi with h1 | ⟨h1,h2⟩
  ·obtain⟨⟨n,q1,q2⟩,_⟩:=kp i b h1
   exact⟨n,by rw[List.getElem?_append_left (List.getElem?_eq_some_iff.1 q1).1];exact q1,q2⟩
  ·subst h1;subst h2
   exact⟨⟨[],[]⟩,by rw[List.getElem?_append_right (zZ _),Nat.sub_self];rfl,⟨⟨_,_,heap_alloc_new w (.cells #[.slice none 0 0,.slice none 0 0] 230),xS _ _ _ _,xS _ _ _ _⟩,hs⟩⟩
 ·rcases ab i b hi with h1 | ⟨h1,h2⟩
  ·rcases ab j b' hj with h3 | ⟨h3,h4⟩
   ·exact h.apart i j b b' hij h1 h3 k ((kp i b h1).2 k q).1 ((kp j b' h3).2 k q').1
   ·have e:k=w.heap.size:=zm5 w k (h4 ▸ q')
    have:=((kp i b h1).2 k q).2
    omega
  ·rcases ab j b' hj with h3 | ⟨h3,h4⟩
   ·have e:k=w.heap.size:=zm5 w k (h2 ▸ q)
    have:=((kp j b' h3).2 k q').2
    omega
   ·omega
def Tr.next (ns:List Tr.Nd)(i:Nat)(c:UInt8):List Tr.Nd×Nat:=
 match ns[i]? with
 | none=>(ns,i)
 | some n=>
  match n.br.find? (fun x=>decide (x.1=c)) with
  | some x=>(ns,x.2)
  | none=>((ns++[(⟨[],[]⟩:Tr.Nd)]).set i ⟨n.rules,n.br++[(c,ns.length)]⟩,ns.length)
def Tr.grow (ns:List Tr.Nd)(i:Nat)(p:List UInt8):List Tr.Nd×Nat:=p.foldl (fun s c=>Tr.next s.1 s.2 c) (ns,i)
def Tr.put (ns:List Tr.Nd)(i k:Nat):List Tr.Nd:=
 match ns[i]? with
 | none=>ns
 | some n=>ns.set i ⟨n.rules++[k],n.br⟩
theorem Tr.next_ok {ns:List Tr.Nd}(h:Tr.Ok ns)(i:Nat)(hi:i<ns.length)(c:UInt8):Tr.Ok (Tr.next ns i c).1/\(Tr.next ns i c).2<(Tr.next ns i c).1.length/\ns.length<=(Tr.next ns i c).1.length/\(Tr.next ns i c).1.length<=ns.length+1:=by
 unfold Tr.next
 rw[qN hi]
 simp only
 split
 ·rename_i x hx
  have:=h i _ (qN hi) x (List.mem_of_find?_eq_some hx)
  exact⟨h,this.2,zZ _,Nat.le_succ _⟩
 ·refine⟨fun j n hj x hx=>?_,by simp,by simp,by simp⟩
  rw[List.length_set,zW,List.length_singleton]
  by_cases e:i=j
  ·subst e
   rw[List.getElem?_set_self (by simp;omega)] at hj
   have e2:=qk hj
   subst e2
   rcases List.mem_append.1 hx with hx | hx
   ·have:=h i _ (qN hi) x hx
    exact⟨this.1,by omega⟩
   ·simp at hx;subst hx;exact⟨hi,by simp⟩
  ·rw[List.getElem?_set_ne e] at hj
   by_cases aa:j<ns.length
   ·rw[List.getElem?_append_left aa] at hj
    have:=h j n hj x hx
    exact⟨this.1,by omega⟩
   ·rw[List.getElem?_append_right (by omega)] at hj
    have h9:=(List.getElem?_eq_some_iff.1 hj).1
    have e3:j - ns.length=0:=by simpa using h9
    rw[e3] at hj
    have e4:=qk hj
    subst e4
    simp at hx
theorem Tr.put_ok {ns:List Tr.Nd}(h:Tr.Ok ns)(i k:Nat):Tr.Ok (Tr.put ns i k)/\(Tr.put ns i k).length=ns.length:=by
 unfold Tr.put
 split
 ·exact⟨h,rfl⟩
 ·rename_i n hn
  refine⟨fun j n' hj x hx=>?_,List.length_set⟩
  rw[List.length_set]
  by_cases e:i=j
  ·subst e
   rw[List.getElem?_set_self (List.getElem?_eq_some_iff.1 hn).1] at hj
   have e2:=qk hj
   subst e2
   exact h i n hn x hx
  ·rw[List.getElem?_set_ne e] at hj
   exact h j n' hj x hx
theorem zp4:(Tryz.prog.info? 299).map (fun i=>(i.zero,i.size,i.bytes))=some (some (.agg #[.int .u8 0,.pointer none]),2,16):=by kernel_rfl
theorem Tr.find_at {l:List (UInt8×Nat)}{c:UInt8}{k:Nat}(hk:k<l.length)(h:l[k].1=c)(hn:∀j (hj:j<l.length),j<k->l[j].1≠c):l.find? (fun x=>decide (x.1=c))=some l[k]:=by
 rw[List.find?_eq_some_iff_getElem]
 exact⟨by simpa using h,k,hk,rfl,fun j hj=>by simpa using hn j (by omega) hj⟩
theorem Tr.find_no {l:List (UInt8×Nat)}{c:UInt8}(hn:∀j (hj:j<l.length),j<l.length->l[j].1≠c):l.find? (fun x=>decide (x.1=c))=none:=by
 rw[List.find?_eq_none]
 intro x hx
 obtain⟨j,hj,rfl⟩:=List.getElem_of_mem hx
 simpa using hn j hj hj
theorem zq7 {a b:UInt8}(h:a≠b):¬((a.toNat:Int)=b.toNat):=fun e=>h (UInt8.toNat_inj.1 (by omega))
theorem zlH {w0 w:World}{aa:List Nat}{ns:List Tr.Nd}{i b:Nat}(h:Ar w0 w aa ns)(am:Tr.Ok ns)(hi:aa[i]?=some b)(c:UInt8)(ay:∀n,ns[i]?=some n->n.br.length<=1000000) :
  Calls Tryz.prog 174 #[.pointer (some ⟨b,0,none⟩),.int .u8 c.toNat] w fun e w'=>∃ex b',e = .returned (.pointer (some ⟨b',0,none⟩))/\Ar w0 w' (aa++ex) (Tr.next ns i c).1/\(aa++ex)[(Tr.next ns i c).2]?=some b':=by
 obtain⟨i0,aR,aS,aT,aU⟩:=info_parts zp4
 obtain⟨n,hn,hN⟩:=h.here i b hi
 obtain⟨vr,vb,h1,h2,h3⟩:=hN.ex
 obtain⟨va,vk,rfl⟩:=zP h3
 have hl:=h.len
 have ay:=ay n hn
 have aX:i<ns.length:=(List.getElem?_eq_some_iff.1 hn).1
 have ah:Y (Tr.next ns i c=match n.br.find? (fun x=>decide (x.1=c)) with | some x=>(ns,x.2) | none=>((ns++[(⟨[],[]⟩:Tr.Nd)]).set i ⟨n.rules,n.br++[(c,ns.length)]⟩,ns.length)):=by
  show _=_;unfold Tr.next;rw[hn];try rfl
 have HH:=hid h
 have aK:=hid am
 have HI:=hid hi
 have HN:=hid hn
 have aH:=hid hN.low
 have HL:=hid hl
 have H1:=hid h1
 have H2:=hid h2
 have H3:=hid h3
 have ar:Y (∀x∈n.br,x.2<ns.length):=fun x hx=>(am i n hn x hx).2
 have k1:w.cell? ⟨b,1,none⟩=some (.slice va n.br.length vk):=z8 h1
 clear h am hi hn hN h1 h2 h3 hl
 generalize Tr.next ns i c=res at*
 go_enter Tryz.func174,Tryz.ntmps174
 go_wp2_with fail
 go_loopw [13] (fun iv wr=>∃k:Nat,k<=n.br.length/\iv = .int .i64 k/\Y (∀j (hj:j<n.br.length),j<k->n.br[j].1≠c)/\Y (w.grownBy wr none)) (fun iv _=>n.br.length - (intOf iv).toNat)
 case atStart=>exact⟨0,zl _,rfl,fun j hj h0=>absurd h0 (by omega),zM _ _⟩
 case round=>
  obtain⟨k,aW,rfl,HP,HG⟩:=hrel
  by_cases af:k<n.br.length
  ·have aV:(k:Int)<n.br.length:=by omega
   obtain⟨g,gc,e1,_,_⟩:=World.ownsRow.form H3.o (by omega)
   simp only[qc,true_and] at e1
   obtain⟨rfl,rfl⟩:=e1
   have d0:wr.cell? ⟨g,k*2,none⟩=some (.int .u8 n.br[k].1.toNat):=qO (Tr.brCell aa) 2 (fun _=>rfl) H3.o HG.o k 0 af (by omega) rfl
   have d1:wr.cell? ⟨g,k*2+1,none⟩=some (.pointer (some ⟨Tr.adr aa n.br[k].2,0,none⟩)):=qO (Tr.brCell aa) 2 (fun _=>rfl) H3.o HG.o k 1 af (by omega) rfl
   have HF:=hid (fun he:n.br[k].1=c=>Tr.find_at af he HP.o)
   have HS:Y (n.br[k].1≠c->∀j (hj:j<n.br.length),j<k+1->n.br[j].1≠c):=fun hne j hj hjk=>by
    by_cases e:j=k
    ·subst e;exact hne
    ·exact HP.o j hj (by omega)
   have HX:=hid (ar.o n.br[k] (List.getElem_mem af))
   generalize n.br[k]=x at*
   have aq:=hid (zA HG.o (zJ wr (.cells #[.int .u8 x.1.toNat,.pointer (some ⟨Tr.adr aa x.2,0,none⟩)] 299) none))
   have HB:=hid (heap_alloc_new wr (.cells #[.int .u8 x.1.toNat,.pointer (some ⟨Tr.adr aa x.2,0,none⟩)] 299))
   have q0:(wr.alloc (.cells #[.int .u8 x.1.toNat,.pointer (some ⟨Tr.adr aa x.2,0,none⟩)] 299)).cell? ⟨wr.heap.size,0,none⟩=some (.int .u8 x.1.toNat):=z8 HB.o
   have q1:(wr.alloc (.cells #[.int .u8 x.1.toNat,.pointer (some ⟨Tr.adr aa x.2,0,none⟩)] 299)).cell? ⟨wr.heap.size,1,none⟩=some (.pointer (some ⟨Tr.adr aa x.2,0,none⟩)):=z8 HB.o
   go_upto_region 4 with fail
   generalize wr.alloc (.cells #[.int .u8 x.1.toNat,.pointer (some ⟨Tr.adr aa x.2,0,none⟩)] 299)=wa at*
   clear d0 d1 HG HB k1
   by_cases he:x.1=c
   ·have aQ:(x.1.toNat:Int)=c.toNat:=by rw[he]
    have ap:=hid (HF.o he)
    clear he HF HS
    go_wp2
    go_ret
    refine⟨[],Tr.adr aa x.2,rfl,?_,?_⟩
    ·rw[ah.o,ap.o,xn]
     exact HH.o.grown aq.o
    ·rw[ah.o,ap.o,xn]
     have hx:x.2<aa.length:=by have:=HX.o;have:=HL.o;omega
     show aa[x.2]?=_
     rw[Tr.adr_at (qN hx),qN hx]
   ·have aQ:=zq7 he
    have aM:=hid (HS.o he)
    clear he HF HS
    go_wp2_with fail
    go_roundw
    case rel=>exact⟨k+1,by omega,by go_num,aM,aq⟩
    case measure=>simp[intOf];omega
  ·have hE:k=n.br.length:=by omega
   subst hE
   have HF:=hid (Tr.find_no HP.o)
   have gr:=HG.o
   have gA:=zJ wr (.cells #[.slice none 0 0,.slice none 0 0] 230) none
   have gX:=zJ (wr.alloc (.cells #[.slice none 0 0,.slice none 0 0] 230)) (.cells #[.int .u8 c.toNat,.pointer (some ⟨wr.heap.size,0,none⟩)] 299) none
   have aj:=zA gr gA
   have ae:=zA aj gX
   have an:=hid (((HH.o.grown gr).new aK.o).grown gX)
   have aL:=hid (zB H1.o aj (by simp))
   have ab:=hid (zB H1.o ae (by simp))
   have av:=hid (zO H2.o ae (fun k hk c=>by cases c))
   have ai:=hid (zO H3.o ae (fun k hk c=>by cases c))
   have aI:Y (∀j u,([.int .u8 c.toNat,.pointer (some ⟨wr.heap.size,0,none⟩)]:List Value)[j]?=some u->((wr.alloc (.cells #[.slice none 0 0,.slice none 0 0] 230)).alloc (.cells #[.int .u8 c.toNat,.pointer (some ⟨wr.heap.size,0,none⟩)] 299)).cell? ((⟨wr.heap.size+1,0,none⟩:Addr).add j)=some u):=qI (wr.alloc (.cells #[.slice none 0 0,.slice none 0 0] 230)) #[_,_] _ _ (by simp)
   have aB:Y (∀u∈([.int .u8 c.toNat,.pointer (some ⟨wr.heap.size,0,none⟩)]:List Value),u.oneCell'=true):=fun u hu=>by simp at hu;rcases hu with rfl | rfl <;> rfl
   have aF:Y (n.br.length+1<=maxLen):=by show _<=_;unfold maxLen;omega
   have aO:Y ((n.br.length+1)*16<=140737488355328):=by show _<=_;omega
   have aw:Y (((wr.alloc (.cells #[.slice none 0 0,.slice none 0 0] 230)).alloc (.cells #[.int .u8 c.toNat,.pointer (some ⟨wr.heap.size,0,none⟩)] 299)).heap.size=wr.heap.size+2):=by show _=_;simp
   have aC:Y (w0.heap.size<=((wr.alloc (.cells #[.slice none 0 0,.slice none 0 0] 230)).alloc (.cells #[.int .u8 c.toNat,.pointer (some ⟨wr.heap.size,0,none⟩)] 299)).heap.size):=an.o.gr.size
   have ag:=hid (zV ab.o ai.o (by decide))
   have kX:((wr.alloc (.cells #[.slice none 0 0,.slice none 0 0] 230)).alloc (.cells #[.int .u8 c.toNat,.pointer (some ⟨wr.heap.size,0,none⟩)] 299)).cell? ⟨b,1,none⟩=some (.slice va n.br.length vk):=z8 ab.o
   have kA:(wr.alloc (.cells #[.slice none 0 0,.slice none 0 0] 230)).cell? ⟨b,1,none⟩=some (.slice va n.br.length vk):=z8 aL.o
   have aP:b<((wr.alloc (.cells #[.slice none 0 0,.slice none 0 0] 230)).alloc (.cells #[.int .u8 c.toNat,.pointer (some ⟨wr.heap.size,0,none⟩)] 299)).heap.size:=zE ab.o
   have az:(aa++[wr.heap.size])[i]?=some b:=by rw[List.getElem?_append_left (List.getElem?_eq_some_iff.1 HI.o).1];exact HI.o
   have ao:Y (res.1=(ns++[(⟨[],[]⟩:Tr.Nd)]).set i ⟨n.rules,n.br++[(c,ns.length)]⟩/\res.2=ns.length):=by show _/\_;rw[ah.o,HF.o];exact⟨rfl,rfl⟩
   have aG:Y ((aa++[wr.heap.size])[res.2]?=some wr.heap.size):=by
    show _=_
    rw[ao.o.2,List.getElem?_append_right (by rw[HL.o];exact zZ _),HL.o,Nat.sub_self];rfl
   have aD:Y (∀g9 ad w9,w9.ownsRow w0.heap.size 299 2 (.slice (some ⟨g9,0,none⟩) (n.br.length+1) ad) (n.br.length+1) (Tr.brCells aa n.br++[.int .u8 c.toNat,.pointer (some ⟨wr.heap.size,0,none⟩)])->((wr.alloc (.cells #[.slice none 0 0,.slice none 0 0] 230)).alloc (.cells #[.int .u8 c.toNat,.pointer (some ⟨wr.heap.size,0,none⟩)] 299)).grownBy w9 (Value.slice va n.br.length vk).ownBlock->((Value.slice va n.br.length vk).ownBlock=some g9\/g9=wr.heap.size+2)->Ar w0 (w9.setCell ⟨b,1,none⟩ (.slice (some ⟨g9,0,none⟩) (n.br.length+1) ad)) (aa++[wr.heap.size]) res.1):=fun g9 ad w9 ho hg hat=>by
    have ak:=qM ab.o hg ag.o
    have gs:=zD w9 b 1 (.slice (some ⟨g9,0,none⟩) (n.br.length+1) ad)
    have r9:=zO av.o hg (xW ai.o av.o (by decide))
    rw[ao.o.1]
    refine an.o.set az (HMv.append kX aP hg ag.o (by rcases hat with h | h;exact Or.inl h;exact Or.inr (by rw[h,aw.o]))) ⟨⟨vr,_,zF (i:=1) ak _,zS r9 gs (zV ak r9 (by decide)),?_⟩,aH.o⟩
    have:=zS ho gs (zV ak ho (by decide))
    show World.ownsRow _ _ _ _ _ (n.br++[(c,ns.length)]).length (Tr.brCells (aa++[wr.heap.size]) (n.br++[(c,ns.length)]))
    have eg:Tr.adr (aa++[wr.heap.size]) ns.length=wr.heap.size:=Tr.adr_at (by rw[List.getElem?_append_right (by rw[HL.o];exact zZ _),HL.o,Nat.sub_self];rfl)
    rw[Tr.brCells_snoc,Tr.brCells_ext (fun x hx=>by rw[HL.o];exact ar.o x hx),zW]
    simp only[eg]
    exact this
   clear gr gA gX aj ae k1 az HP HG HF
   go_wp2_with (at_builtin;refine wpList_append_lies _ rfl (.tmp 30) (.tmp 34) 228 rfl w0.heap.size 299 i0 _ 2 16 Tryz.underlying228 aR aS aT aU rfl (by decide) _ _ _ rfl ai.o ⟨wr.heap.size+1,0,none⟩ 1 1 [.int .u8 c.toNat,.pointer (some ⟨wr.heap.size,0,none⟩)] rfl rfl aI.o aB.o (by decide) aF.o aO.o aC.o (wr.heap.size+2) aw.o ?_)
   intro g9 ad w9 aA al ax _
   have aJ:=hid aA
   have aE:=hid al
   have aN:=hid ax
   have au:=hid (qM ab.o al ag.o)
   have q9:w9.cell? ⟨b,1,none⟩=some (.slice va n.br.length vk):=z8 au.o
   have f9:w9.frozen? ⟨b,1,none⟩=false:=zC au.o
   clear aA al ax
   go_wp2
   go_ret
   exact⟨[wr.heap.size],wr.heap.size,rfl,aD.o _ _ _ aJ.o aE.o aN.o,aG.o⟩
def Tr.Bd (ns:List Tr.Nd)(m:Nat):Prop:=∀(i:Nat) n,ns[i]?=some n->n.br.length<=m/\n.rules.length<=m
theorem Tr.Bd.mono {ns:List Tr.Nd}{m m':Nat}(h:Tr.Bd ns m)(hm:m<=m'):Tr.Bd ns m':=fun i n hi=>by have:=h i n hi;omega
theorem Tr.next_bd {ns:List Tr.Nd}{m:Nat}(h:Tr.Bd ns m)(i:Nat)(c:UInt8):Tr.Bd (Tr.next ns i c).1 (m+1):=by
 unfold Tr.next
 split
 ·exact h.mono (by omega)
 ·rename_i n hn
  split
  ·exact h.mono (by omega)
  ·intro j n' hj
   by_cases e:i=j
   ·subst e
    rw[List.getElem?_set_self (by have:=(List.getElem?_eq_some_iff.1 hn).1;simp;omega)] at hj
    have e2:=qk hj
    subst e2
    have:=h i n hn
    exact⟨by simp;omega,by show n.rules.length<=_;omega⟩
   ·rw[List.getElem?_set_ne e] at hj
    by_cases aa:j<ns.length
    ·rw[List.getElem?_append_left aa] at hj
     have:=h j n' hj
     omega
    ·rw[List.getElem?_append_right (by omega)] at hj
     have h9:=(List.getElem?_eq_some_iff.1 hj).1
     have e3:j - ns.length=0:=by simpa using h9
     rw[e3] at hj
     have e4:=qk hj
     subst e4
     simp
theorem Tr.put_bd {ns:List Tr.Nd}{m:Nat}(h:Tr.Bd ns m)(i k:Nat):Tr.Bd (Tr.put ns i k) (m+1):=by
 unfold Tr.put
 split
 ·exact h.mono (by omega)
 ·rename_i n hn
  intro j n' hj
  by_cases e:i=j
  ·subst e
   rw[List.getElem?_set_self (List.getElem?_eq_some_iff.1 hn).1] at hj
   have e2:=qk hj
   subst e2
   have:=h i n hn
   exact⟨by show n.br.length<=_;omega,by simp;omega⟩
  ·rw[List.getElem?_set_ne e] at hj
   have:=h j n' hj
   omega
theorem Tr.grow_snoc (ns:List Tr.Nd)(i:Nat)(p:List UInt8)(c:UInt8):Tr.grow ns i (p++[c])=Tr.next (Tr.grow ns i p).1 (Tr.grow ns i p).2 c:=by unfold Tr.grow;rw[List.foldl_append];rfl
theorem Tr.grow_ok (p:List UInt8):∀{ns:List Tr.Nd} {i m:Nat},Tr.Ok ns->i<ns.length->Tr.Bd ns m->Tr.Ok (Tr.grow ns i p).1/\(Tr.grow ns i p).2<(Tr.grow ns i p).1.length/\ns.length<=(Tr.grow ns i p).1.length/\(Tr.grow ns i p).1.length<=ns.length+p.length/\Tr.Bd (Tr.grow ns i p).1 (m+p.length):=by
 induction p with
 | nil=>intro ns i m h hi hb;exact⟨h,hi,zZ _,zZ _,hb⟩
 | cons c t ih=>
  intro ns i m h hi hb
  have h1:=Tr.next_ok h i hi c
  have h2:=ih h1.1 h1.2.1 (Tr.next_bd hb i c)
  show Tr.Ok (Tr.grow (Tr.next ns i c).1 (Tr.next ns i c).2 t).1/\(Tr.grow (Tr.next ns i c).1 (Tr.next ns i c).2 t).2<(Tr.grow (Tr.next ns i c).1 (Tr.next ns i c).2 t).1.length/\ns.length<=(Tr.grow (Tr.next ns i c).1 (Tr.next ns i c).2 t).1.length/\(Tr.grow (Tr.next ns i c).1 (Tr.next ns i c).2 t).1.length<=ns.length+(c :: t).length/\Tr.Bd (Tr.grow (Tr.next ns i c).1 (Tr.next ns i c).2 t).1 (m+(c :: t).length)
  refine⟨h2.1,h2.2.1,by omega,by rw[zm];omega,h2.2.2.2.2.mono (by rw[zm];omega)⟩
theorem zm0 (s:ByteArray)(k:Nat)(h:k<s.size):s.data.toList.take (k+1)=s.data.toList.take k++[s[k]]:=by
 have hk:k<s.data.toList.length:=by simpa using h
 rw[List.take_add_one,qN hk]
 rfl
theorem zlF {w0 w:World}{aa:List Nat}{ns:List Tr.Nd}{i b m:Nat}(h:Ar w0 w aa ns)(ag:Tr.Ok ns)(af:Tr.Bd ns m)(hm:m<=100000)(hi:aa[i]?=some b)(s:ByteArray)(hs:s.size<=100000) :
  Calls Tryz.prog 116 #[.pointer (some ⟨b,0,none⟩),.string s] w fun e w'=>∃ex b',e = .returned (.pointer (some ⟨b',0,none⟩))/\Ar w0 w' (aa++ex) (Tr.grow ns i s.data.toList).1/\(aa++ex)[(Tr.grow ns i s.data.toList).2]?=some b':=by
 have ai:i<ns.length:=by have:=h.len;have:=(List.getElem?_eq_some_iff.1 hi).1;omega
 have HZ:Y (Ar w0 w (aa++[]) (Tr.grow ns i (s.data.toList.take 0)).1/\(aa++[])[(Tr.grow ns i (s.data.toList.take 0)).2]?=some b):=by show _/\_;rw[xn];exact⟨h,hi⟩
 have HN:Y (∀k (hk:k<s.size) wr ex b',Ar w0 wr (aa++ex) (Tr.grow ns i (s.data.toList.take k)).1->(aa++ex)[(Tr.grow ns i (s.data.toList.take k)).2]?=some b'->Calls Tryz.prog 174 #[.pointer (some ⟨b',0,none⟩),.int .u8 s[k].toNat] wr fun e w'=>∃ad ab,e = .returned (.pointer (some ⟨ab,0,none⟩))/\Y (Ar w0 w' (aa++ad) (Tr.grow ns i (s.data.toList.take (k+1))).1/\(aa++ad)[(Tr.grow ns i (s.data.toList.take (k+1))).2]?=some ab)):=fun k hk wr ex b' h1 h2=>by
  have hl:(s.data.toList.take k).length<=100000:=by rw[List.length_take];omega
  obtain⟨o1,o2,o3,o4,o5⟩:=Tr.grow_ok (s.data.toList.take k) ag ai af
  refine(zlH h1 o1 h2 s[k] (fun n hn=>by have:=(o5 _ n hn).1;omega)).mono ?_
  rintro e w' ⟨ad,ab,q1,q2,q3⟩
  refine⟨ex++ad,ab,q1,?_⟩
  show _/\_
  rw[zm0 s k hk,Tr.grow_snoc,<-xY]
  exact⟨q2,q3⟩
 have ae:Y (s.data.toList.take s.size=s.data.toList):=by show _=_;rw[<-R.size_eq];exact List.take_length
 clear h ag af hi
 go_enter Tryz.func116,Tryz.ntmps116
 go_wp2_with fail
 go_loopw [5,10] (fun hv iv wr=>∃k:Nat,k<=s.size/\iv = .int .i64 k/\∃ex b',hv = .pointer (some ⟨b',0,none⟩)/\Y (Ar w0 wr (aa++ex) (Tr.grow ns i (s.data.toList.take k)).1/\(aa++ex)[(Tr.grow ns i (s.data.toList.take k)).2]?=some b')) (fun _ iv _=>s.size - (intOf iv).toNat)
 case atStart=>exact⟨0,zl _,rfl,[],b,rfl,HZ⟩
 case round=>
  obtain⟨k,al,rfl,ex,b',rfl,HW⟩:=hrel
  clear HZ
  by_cases aj:k<s.size
  ·have ak:(k:Int)<s.size:=by omega
   have HC:=hid (HN.o k aj wr ex b' HW.o.1 HW.o.2)
   clear HN ae HW
   go_wp2_with fail
   refine HC.o.mono ?_
   rintro e w' ⟨ad,ab,rfl,ah⟩
   clear HC
   go_wp2_with fail
   go_roundw
   case rel=>exact⟨k+1,by omega,by go_num,ad,ab,rfl,ah⟩
   case measure=>simp[intOf];omega
  ·have hE:k=s.size:=by omega
   subst hE
   rw[ae.o] at HW
   clear HN
   go_wp2
   go_ret
   exact⟨ex,b',rfl,HW.o.1,HW.o.2⟩
structure Tr.Ins where
 kind:Nat
 rule:Nat
 on:UInt8
 dst:Nat
deriving DecidableEq
def Tr.Ins.cells (x:Tr.Ins):List Value:=[.int .i64 x.kind,.int .i64 x.rule,.int .u8 x.on.toNat,.int .i64 x.dst]
def Tr.insCells (p:List Tr.Ins):List Value:=(p.map Tr.Ins.cells).flatten
theorem Tr.insCells_snoc (p:List Tr.Ins)(x:Tr.Ins):Tr.insCells (p++[x])=Tr.insCells p++[.int .i64 x.kind,.int .i64 x.rule,.int .u8 x.on.toNat,.int .i64 x.dst]:=by
 unfold Tr.insCells;rw[xy,jt];rfl
theorem Tr.insCells_set (q:List Tr.Ins):∀(j:Nat) (x:Tr.Ins) (d:Nat),q[j]?=some x->Tr.insCells (q.set j { x with dst:=d })=(Tr.insCells q).set (j*4+3) (.int .i64 d):=by
 induction q with
 | nil=>intro j x d h;simp at h
 | cons y t ih=>
  intro j x d h
  match j with
  | 0=>
   have e:y=x:=by simpa using h
   subst e
   rfl
  | j+1=>
   have h':t[j]?=some x:=by simpa using h
   have h1:=ih j x d h'
   show Tr.Ins.cells y++Tr.insCells (t.set j _)=(Tr.Ins.cells y++Tr.insCells t).set ((j+1)*4+3) _
   rw[h1,List.set_append_right _ _ (by show 4<=_;omega)]
   have e:(j+1)*4+3 - (Tr.Ins.cells y).length=j*4+3:=by show _ - 4=_;omega
   rw[e]
def Tr.aim (q:List Tr.Ins)(j:Nat):List Tr.Ins:=
 match q[j]? with
 | none=>q
 | some x=>q.set j { x with dst:=q.length }
theorem Tr.aim_len (q:List Tr.Ins)(j:Nat):(Tr.aim q j).length=q.length:=by
 unfold Tr.aim;split
 ·rfl
 ·rw[List.length_set]
theorem Tr.aim_cells (q:List Tr.Ins)(j:Nat)(h:j<q.length):Tr.insCells (Tr.aim q j)=(Tr.insCells q).set (j*4+3) (.int .i64 q.length):=by
 have e:q[j]?=some q[j]:=qN h
 unfold Tr.aim
 rw[e]
 exact Tr.insCells_set q j q[j] q.length e
def Tr.note (k:Nat):Tr.Ins:=⟨0,k,0,0⟩
def Tr.step (c:UInt8):Tr.Ins:=⟨1,0,c,0⟩
def Tr.jump:Tr.Ins:=⟨2,0,0,0⟩
def Tr.lay (ns:List Tr.Nd):Nat->Nat->List Tr.Ins->List Tr.Ins
 | 0,_,p=>p
 | f+1,i,p=>
  match ns[i]? with
  | none=>p
  | some n=>n.br.foldl (fun q x=>Tr.aim (Tr.lay ns f x.2 (q++[Tr.step x.1])) q.length) (p++n.rules.map Tr.note)++[Tr.jump]
def Tr.laid (ns:List Tr.Nd)(f:Nat)(p:List Tr.Ins)(l:List (UInt8×Nat)):List Tr.Ins:=l.foldl (fun q x=>Tr.aim (Tr.lay ns f x.2 (q++[Tr.step x.1])) q.length) p
theorem Tr.laid_snoc (ns:List Tr.Nd)(f:Nat)(p:List Tr.Ins)(l:List (UInt8×Nat))(x:UInt8×Nat):Tr.laid ns f p (l++[x])=Tr.aim (Tr.lay ns f x.2 (Tr.laid ns f p l++[Tr.step x.1])) (Tr.laid ns f p l).length:=by
 unfold Tr.laid;rw[List.foldl_append];rfl
theorem Tr.laid_len_of {ns:List Tr.Nd}{f:Nat}(h:∀i p,p.length<=(Tr.lay ns f i p).length)(l:List (UInt8×Nat)):∀p,p.length<=(Tr.laid ns f p l).length:=by
 induction l with
 | nil=>intro p;exact zZ _
 | cons x t ih=>
  intro p
  have h1:=h x.2 (p++[Tr.step x.1])
  have h2:=ih (Tr.aim (Tr.lay ns f x.2 (p++[Tr.step x.1])) p.length)
  rw[Tr.aim_len] at h2
  rw[zW] at h1
  show _<=(Tr.laid ns f (Tr.aim (Tr.lay ns f x.2 (p++[Tr.step x.1])) p.length) t).length
  omega
theorem Tr.lay_len (ns:List Tr.Nd)(f:Nat):∀i p,p.length<=(Tr.lay ns f i p).length:=by
 induction f with
 | zero=>intro i p;exact zZ _
 | succ f ih=>
  intro i p
  unfold Tr.lay
  split
  ·exact zZ _
  ·rename_i n hn
   have h1:=Tr.laid_len_of ih n.br (p++n.rules.map Tr.note)
   rw[zW] at h1
   show _<=(Tr.laid ns f (p++n.rules.map Tr.note) n.br++[Tr.jump]).length
   rw[zW]
   omega
theorem Tr.laid_len (ns:List Tr.Nd)(f:Nat)(p:List Tr.Ins)(l:List (UInt8×Nat))(k:Nat):(Tr.laid ns f p (l.take k)).length<=(Tr.laid ns f p l).length:=by
 have e:Tr.laid ns f p l=Tr.laid ns f (Tr.laid ns f p (l.take k)) (l.drop k):=by
  unfold Tr.laid;rw[<-List.foldl_append,List.take_append_drop]
 rw[e]
 exact Tr.laid_len_of (Tr.lay_len ns f) _ _
theorem Tr.lay_eq {ns:List Tr.Nd}{i:Nat}{n:Tr.Nd}(h:ns[i]?=some n)(f:Nat)(p:List Tr.Ins):Tr.lay ns (f+1) i p=Tr.laid ns f (p++n.rules.map Tr.note) n.br++[Tr.jump]:=by
 unfold Tr.lay;rw[h];rfl
def Nk (w w':World):Prop:=∀k:Nat,(∃cs t,w.heap[k]?=some (.cells cs t (0,0))/\t∈ndTypes)->w'.heap[k]?=w.heap[k]?
theorem Nk.refl (w:World):Nk w w:=fun _ _=>rfl
theorem Nk.trans {w x y:World}(h1:Nk w x)(h2:Nk x y):Nk w y:=fun k hk=>by
 have e:=h1 k hk
 obtain⟨cs,t,q1,q2⟩:=hk
 exact(h2 k ⟨cs,t,e.trans q1,q2⟩).trans e
theorem Nk.grown {w w':World}(g:w.grownBy w' none):Nk w w':=fun k ⟨_,_,e,_⟩=>g.block k (zE e) (by simp)
theorem Nk.row {w w':World}{B:Nat}{e:TypeId}{s:Nat}{v:Value}{n:Nat}{xs:List Value}(h:w.ownsRow B e s v n xs)(he:e ∉ ndTypes)(g:w.grownBy w' v.ownBlock):Nk w w':=fun k ⟨cs,t,q1,q2⟩=>by
 refine g.block k (zE q1) (fun e2=>?_)
 obtain⟨c,q3⟩:=qH h k e2.symm
 rw[q1] at q3
 simp only[Option.some.injEq,Obj.cells.injEq] at q3
 exact he (q3.2.1 ▸ q2)
theorem Ar.nk {w0 w w':World}{aa:List Nat}{ns:List Tr.Nd}(h:Ar w0 w aa ns)(hk:Nk w w')(g:w0.grownBy w' none):Ar w0 w' aa ns:=h.keep g hk
theorem zn4 {w w':World}{B:Nat}{e:TypeId}{s:Nat}{v:Value}{n:Nat}{xs:List Value}(h:w.ownsRow B e s v n xs)(he:e∈ndTypes)(hk:Nk w w'):w'.ownsRow B e s v n xs:=
 tB h (fun k q=>by obtain⟨c,e1⟩:=qH h k q;exact hk k ⟨_,_,e1,he⟩)
theorem jG {w w0:World}{af:Array Oper}{rest:List Oper}{o:Oper}{ac:Act}{Q:Exit->Act->World->Prop}(ag:o.guard=none)(s x:Operand)(t e:TypeId)
  (ho:o.op = .call { callee:=.builtin .append,args:=#[s,x],argTypes:=#[t,t] }) {z:Value} {n aa:Nat} (ht:(Tryz.prog).underlying t=some (.slice e)) (hi:((Tryz.prog).info? e).map (fun i=>(i.zero,i.size,i.bytes))=some (some z,n,aa))
  (ak:z.cells.size=n) (hn:0<n) (hb:aa<=1000) {a:Option Addr} {k m:Nat} {xs:List Value} (hs:ac.eval s = .slice a m k) (h:Rw w0 w e n a k m xs) (ad:Addr) (c:Nat) (ys:List Value) (hx:ac.eval x = .slice (some ad) 1 c)
  (hl:ys.length=n) (hc:∀j u,ys[j]?=some u->w.cell? (ad.add j)=some u) (h1:∀u∈ys,u.oneCell'=true) (hm:m<=100000000) (he:e ∉ ndTypes)
  (hK:∀a' k' w',Y (Rw w0 w' e n a' k' (m+1) (xs++ys))->Y (Nk w w')->wpList Tryz.prog af Q rest (ac.put o.dst (.slice a' (m+1) k')) w'):wpList Tryz.prog af Q (o :: rest) ac w:=by
 obtain⟨i0,hi,ah,ai,aj⟩:=info_parts hi
 refine wpList_append_own w ag s x t ho w0.heap.size e i0 z n aa ht hi ah ai aj ak hn _ _ _ hs h.own ad 1 c ys hx (by rw[hl,Nat.one_mul]) hc h1 (by unfold maxLen;omega) (zp (Nat.mul_le_mul (show m+1<=100000001 by omega) hb) (by decide)) h.gr.size ?_
 intro v' w' ae ab _
 obtain⟨a',k',rfl⟩:=zP ae
 exact hK a' k' w' ⟨ae,x9 h.gr ab (fun k hk=>(qh h.own k hk).1)⟩ (Nk.row h.own he ab)
theorem fV:(Tryz.prog.info? 297).map (fun i=>(i.zero,i.size,i.bytes))=some (some (.agg #[.int .i64 0,.int .i64 0,.int .u8 0,.int .i64 0]),4,32):=by kernel_rfl
end Go.Proofs.YtfocdefchbnkpaaGreatDoor
