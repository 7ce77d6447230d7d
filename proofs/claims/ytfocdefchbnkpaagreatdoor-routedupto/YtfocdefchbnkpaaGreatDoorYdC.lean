/- Connections, as the program keeps them: a byte of the body, what is ready. -/
import Derived.Test.YtfocdefchbnkpaaGreatDoorAli
import Derived.Test.YtfocdefchbnkpaaGreatDoorRqN
import Derived.Deep.Onto
set_option maxRecDepth 100000
set_option maxHeartbeats 20000000
namespace Go.Proofs.YtfocdefchbnkpaaGreatDoor
open Go.RowKit
theorem PcAt.hf {w:World}{pb B k:Nat}{p:Pc}(h:PcAt w pb B p)(hk:HF w pb k):k=pb\/(B<=k/\∃cs f,w.heap[k]?=some (.cells cs 5 f)):=by
 obtain⟨vd,p1,p2⟩:=h.ex
 rcases hk with rfl | ⟨j,u,c1,c2⟩
 ·exact Or.inl rfl
 ·rw[z8 p1] at c1
  have hd:u=vd\/u.ownBlock=none:=by
   match j,c1 with
   | 0,c1=>simp at c1;subst c1;exact Or.inr rfl
   | 1,c1=>simp at c1;exact Or.inl c1.symm
   | 2,c1=>simp at c1;subst c1;exact Or.inr rfl
   | j+3,c1=>simp at c1
  rcases hd with rfl | hd
  ·exact Or.inr (p2.kind k c2)
  ·rw[hd] at c2;cases c2
theorem PcAt.apart {w:World}{pb B b:Nat}{p:Pc}{cs:Array Value}{t:TypeId}{f:Nat×Nat}(h:PcAt w pb B p)(hb:w.heap[b]?=some (.cells cs t f))(h1:t≠172)(h2:t≠5):¬HF w pb b:=by
 intro hF
 rcases h.hf hF with e | ⟨_,c,f',e⟩
 ·obtain⟨vd,p1,_⟩:=h.ex
  rw[e,p1] at hb
  simp only[Option.some.injEq,Obj.cells.injEq] at hb
  exact h1 hb.2.1.symm
 ·rw[hb] at e
  simp only[Option.some.injEq,Obj.cells.injEq] at e
  exact h2 e.2.1
theorem ki {w:World}{cb pb k:Nat}{v0 v1 v2 v3 v4:Value}(hb:w.heap[cb]?=some (.cells #[v0,v1,v2,v3,v4,.pointer (some ⟨pb,0,none⟩)] 106 (0,0)))(hk:HF w pb k):CF w cb k:=Or.inr ⟨pb,z8 hb,hk⟩
theorem CMv.body {w w':World}{cb pb B:Nat}{p:Pc}{row:Option Nat}{v0 v1 v2 v3 v4:Value}(hb:w.heap[cb]?=some (.cells #[v0,v1,v2,v3,v4,.pointer (some ⟨pb,0,none⟩)] 106 (0,0)))(hp:PcAt w pb B p)(m:HMv w w' pb) :
  w'.heap[cb]?=w.heap[cb]?/\CMv w w' cb row:=by
 have ab:=zE hb
 have aa:=m.turn.block cb ab (hp.apart hb (by decide) (by decide))
 refine⟨aa,⟨⟨m.turn.os,m.turn.tape,m.turn.output,m.turn.size,fun k hk hn=>m.turn.block k hk (fun hF=>hn (Or.inl (ki hb hF)))⟩,fun k hk=>?_⟩⟩
 rcases hk with hk | ⟨pb',h1,h2⟩
 ·exact Or.inl (Or.inl (jo aa hk))
 ·rw[jA aa,z8 hb] at h1
  simp at h1
  rw[<-h1] at h2
  rcases m.foot k h2 with q | q
  ·exact Or.inl (ki hb q)
  ·exact Or.inr q
theorem zcE {w:World}{cb B:Nat}{p:Pc}{row:Option Nat}{v:Value}(hI:CAt w cb B (.bd p))(c:UInt8)(hl:1<=p.left/\p.left<=100000)(hd:p.data.length<=1000000000)(hB:B<=w.heap.size) :
  Calls Tryz.prog 79 #[.pointer (some ⟨cb,0,none⟩),.int .u8 c.toNat,v] w fun e w'=>e = .returned (.string (R.str []))/\CAt w' cb B (.bd (p.take c))/\CMv w w' cb row:=by
 obtain⟨pb,hb,hp,aa⟩:=hI
 have k5:w.cell? ⟨cb,5,none⟩=some (.pointer (some ⟨pb,0,none⟩)):=z8 hb
 have HT:=hid (zl4 hp c hl hd hB)
 have HB:=hid hb
 have HP:=hid hp
 clear hb hp hl hd
 generalize p.take c=p' at*
 go_enter Tryz.func79,Tryz.ntmps79
 go_wp2_with fail
 refine HT.o.mono ?_
 rintro e w1 ⟨rfl,i1,m1⟩
 have I1:=hid i1
 have M1:=hid (CMv.body (row:=row) HB.o HP.o m1)
 clear i1 m1 HT
 go_wp2
 go_ret
 exact⟨rfl,⟨pb,M1.o.1.trans HB.o,I1.o,aa⟩,M1.o.2⟩
theorem zcQ {w:World}{cb B:Nat}{h:Rq.Head}(hI:CAt w cb B (.hd h)) :
  Calls Tryz.prog 82 #[.pointer (some ⟨cb,0,none⟩)] w fun e w'=>e = .returned (.pointer none)/\w'=w:=by
 have k5:=HInv.c5 hI
 clear hI
 go_enter Tryz.func82,Tryz.ntmps82
 go_wp2
 go_ret
 exact⟨rfl,rfl⟩
theorem zcR {w:World}{cb B:Nat}{p:Pc}(hI:CAt w cb B (.bd p))(hl:p.left≠0) :
  Calls Tryz.prog 82 #[.pointer (some ⟨cb,0,none⟩)] w fun e w'=>e = .returned (.pointer none)/\w'=w:=by
 obtain⟨pb,hb,hp,aa⟩:=hI
 have k5:w.cell? ⟨cb,5,none⟩=some (.pointer (some ⟨pb,0,none⟩)):=z8 hb
 have HT:=hid (wF hp)
 rw[decide_eq_false hl] at HT
 clear hb hp hl
 go_enter Tryz.func82,Tryz.ntmps82
 go_wp2_with fail
 refine HT.o.mono ?_
 rintro e w1 ⟨rfl,rfl⟩
 clear HT
 go_wp2
 go_ret
 exact⟨rfl,rfl⟩
theorem CAt.ready {w:World}{cb B pb:Nat}{p:Pc}{row:Option Nat}(hb:w.heap[cb]?=some (.cells #[.int .i64 0,.slice none 0 0,.string ⟨#[]⟩,.string ⟨#[]⟩,.slice none 0 0,.pointer (some ⟨pb,0,none⟩)] 106 (0,0)))(hp:PcAt w pb B p)(aa:B<=cb) :
  CAt (w.setCell ⟨cb,5,none⟩ (.pointer none)) cb B (.hd Rq.zero)/\PcAt (w.setCell ⟨cb,5,none⟩ (.pointer none)) pb B p/\CMv w (w.setCell ⟨cb,5,none⟩ (.pointer none)) cb row:=by
 have g9:=zD w cb 5 (.pointer none)
 have b5:=zF (i:=5) hb (.pointer none)
 have ab:¬HF w pb cb:=hp.apart hb (by decide) (by decide)
 obtain⟨vd,p1,p2⟩:=hp.ex
 refine⟨⟨⟨_,_,b5,xS _ _ _ _,xS _ _ _ _⟩,aa⟩,⟨⟨vd,zB p1 g9 (by simp only[ne_eq,Option.some.injEq];exact fun e=>ab (Or.inl e.symm)),p2.away g9 (fun k hk e=>p2.apart hb (by decide) k hk (qk e).symm)⟩,hp.low⟩,⟨⟨g9.os,g9.tape,g9.output,g9.size,fun k hk hn=>g9.block k hk (by simp only[ne_eq,Option.some.injEq];exact fun e=>hn (Or.inl (Or.inl (Or.inl e))))⟩,fun k hk=>?_⟩⟩
 rcases hk with hk | ⟨pb',h1,h2⟩
 ·rcases hk with rfl | ⟨j,u,c1,c2⟩
  ·exact Or.inl (Or.inl (Or.inl rfl))
  ·rw[z8 b5] at c1
   exfalso
   match j,c1 with
   | 0,c1=>simp at c1;subst c1;cases c2
   | 1,c1=>simp at c1;subst c1;cases c2
   | 2,c1=>simp at c1;subst c1;cases c2
   | 3,c1=>simp at c1;subst c1;cases c2
   | 4,c1=>simp at c1;subst c1;cases c2
   | 5,c1=>simp at c1;subst c1;cases c2
   | j+6,c1=>simp at c1
 ·have h5:(w.setCell ⟨cb,5,none⟩ (.pointer none)).cell? ⟨cb,5,none⟩=some (.pointer none):=z8 b5
  rw[h5] at h1
  simp at h1
theorem tY {w:World}{cb B:Nat}{p:Pc}{row:Option Nat}(hI:CAt w cb B (.bd p))(hl:p.left=0) :
  Calls Tryz.prog 82 #[.pointer (some ⟨cb,0,none⟩)] w fun e w'=>∃pb,e = .returned (.pointer (some ⟨pb,0,none⟩))/\CAt w' cb B (.hd Rq.zero)/\PcAt w' pb B p/\CMv w w' cb row/\w.grownBy w' (some cb)/\CF w cb pb:=by
 obtain⟨pb,hb,hp,ab⟩:=hI
 have k5:w.cell? ⟨cb,5,none⟩=some (.pointer (some ⟨pb,0,none⟩)):=z8 hb
 have f5:=zrB 5 hb
 have HT:=hid (wF hp)
 have HE:=hid (CAt.ready (row:=row) hb hp ab)
 have aa:=hid (ki hb (Or.inl rfl))
 rw[decide_eq_true hl] at HT
 clear hb hp hl
 go_enter Tryz.func82,Tryz.ntmps82
 go_wp2_with fail
 refine HT.o.mono ?_
 rintro e w1 ⟨rfl,rfl⟩
 clear HT
 go_wp2
 go_ret
 exact⟨pb,rfl,HE.o.1,HE.o.2.1,HE.o.2.2,zD _ _ _ _,aa.o⟩
structure Ev where
 conn:Nat
 dst:List UInt8
 data:List UInt8
def Ev.cells (e:Ev):List Value:=[.int .i64 e.conn,.string (R.str e.dst),.string (R.str e.data)]
def evCells (l:List Ev):List Value:=l.flatMap Ev.cells
theorem zc2 (l:List Ev)(e:Ev):evCells (l++[e])=evCells l++[.int .i64 e.conn,.string (R.str e.dst),.string (R.str e.data)]:=by unfold evCells;rw[List.flatMap_append];rfl
theorem q6q (l:List Ev):(evCells l).length=l.length*3:=by
 induction l with
 | nil=>rfl
 | cons a t ih=>show(Ev.cells a++evCells t).length=_;rw[zW,ih];show 3+_=(t.length+1)*3;omega
structure Yd where
 draws:List UInt64
 conns:List (Option Cn)
 sent:List Ev
def ptrV:Option Nat->Value
 | none=>.pointer none
 | some b=>.pointer (some ⟨b,0,none⟩)
def drawV (n:UInt64):Value:=.int .u64 n.toNat
def QRow (w:World)(B:Nat)(e:TypeId)(v:Value)(xs:List Value):Prop:=
 ∃ao b off cap,v = .slice ao xs.length cap/\Came w 1 ao b off xs.length cap xs/\(∀a,ao=some a->a.block=b/\B<=b/\∃cs,w.heap[b]?=some (.cells cs e (0,0)))
structure YInv (w:World) (yb B:Nat) (tv:Value) (ps:List (Option Nat)) (y:Yd):Prop where
 ex:∃vd vc vs,w.heap[yb]?=some (.cells #[tv,vd,vc,vs] 99 (0,0))/\QRow w B 60 vd (y.draws.map drawV)/\w.ownsRow B 100 1 vc ps.length (ps.map ptrV)/\w.ownsRow B 44 3 vs y.sent.length (evCells y.sent)
 low:B<=yb
 len:ps.length=y.conns.length
 here:∀(i:Nat) (cb:Nat),ps[i]?=some (some cb)->∃c,y.conns[i]?=some (some c)/\CAt w cb B c
 gone:∀i:Nat,ps[i]?=some none->y.conns[i]?=some none
 apart:∀i j cb cb':Nat,i≠j->ps[i]?=some (some cb)->ps[j]?=some (some cb')->∀k,CF w cb k->¬CF w cb' k
def cnTypes:List TypeId:=[106,5,346,172]
theorem HInv.hf {w:World}{cb B k:Nat}{wt:Value}{h:Rq.Head}(hI:HInv w cb B wt h)(hw:wt.ownBlock=none)(hk:HF w cb k):B<=k/\∃cs t f,w.heap[k]?=some (.cells cs t f)/\t∈cnTypes:=by
 obtain⟨vl,vh,q1,q2,q3⟩:=hI.ex
 rcases hk with rfl | ⟨j,u,c1,c2⟩
 ·exact⟨hI.low,_,_,_,q1,by decide⟩
 ·rw[z8 q1] at c1
  have hd:u=vl\/u=vh\/u.ownBlock=none:=by
   match j,c1 with
   | 0,c1=>simp at c1;subst c1;exact Or.inr (Or.inr rfl)
   | 1,c1=>simp at c1;exact Or.inl c1.symm
   | 2,c1=>simp at c1;subst c1;exact Or.inr (Or.inr rfl)
   | 3,c1=>simp at c1;subst c1;exact Or.inr (Or.inr rfl)
   | 4,c1=>simp at c1;exact Or.inr (Or.inl c1.symm)
   | 5,c1=>simp at c1;subst c1;exact Or.inr (Or.inr hw)
   | j+6,c1=>simp at c1
  rcases hd with rfl | rfl | hd
  ·obtain⟨c,e⟩:=qH q2 k c2
   exact⟨(qh q2 k c2).1,_,_,_,e,by decide⟩
  ·obtain⟨c,e⟩:=qH q3 k c2
   exact⟨(qh q3 k c2).1,_,_,_,e,by decide⟩
  ·rw[hd] at c2;cases c2
theorem CAt.cf {w:World}{cb B k:Nat}{c:Cn}(h:CAt w cb B c)(hk:CF w cb k):B<=k/\∃cs t f,w.heap[k]?=some (.cells cs t f)/\t∈cnTypes:=by
 cases c with
 | hd hh=>
  have hI:HInv w cb B (.pointer none) hh:=h
  rcases hk with hk | ⟨pb,h1,h2⟩
  ·exact hI.hf rfl hk
  ·rw[hI.c5] at h1;simp at h1
 | bd p=>
  obtain⟨pb,hb,hp,aa⟩:=h
  rcases hk with hk | ⟨pb',h1,h2⟩
  ·exact(Pc.zero_head w hb aa).hf rfl hk
  ·rw[z8 hb] at h1
   simp at h1
   rw[<-h1] at h2
   rcases hp.hf h2 with rfl | ⟨q1,c,f,q2⟩
   ·obtain⟨vd,p1,_⟩:=hp.ex
    exact⟨hp.low,_,_,_,p1,by decide⟩
   ·exact⟨q1,_,_,_,q2,by decide⟩
theorem CAt.lt {w:World}{cb B k:Nat}{c:Cn}(h:CAt w cb B c)(hk:CF w cb k):k<w.heap.size:=by
 obtain⟨_,cs,t,f,e,_⟩:=h.cf hk
 exact zE e
theorem CAt.keep {w w':World}{cb B:Nat}{c:Cn}(h:CAt w cb B c)(hk:∀k,CF w cb k->w'.heap[k]?=w.heap[k]?):CAt w' cb B c/\∀k,CF w' cb k->CF w cb k:=by
 have hc:w'.heap[cb]?=w.heap[cb]?:=hk cb (Or.inl (Or.inl rfl))
 have aa:∀(b:Nat) {e:TypeId} {s:Nat} {v:Value} {n:Nat} {xs:List Value} (i:Nat),(∀k,HF w b k->CF w cb k)->w.cell? ⟨b,i,none⟩=some v->w.ownsRow B e s v n xs->w'.ownsRow B e s v n xs:=by
  intro b e s v n xs i hF hi ho
  refine⟨ho.1,ho.2.imp id fun⟨g,cap,cur,h1,h2,h3,h4⟩=>⟨g,cap,cur,h1,h2,?_,h4⟩⟩
  rw[hk g (hF g (Or.inr ⟨i,v,hi,by rw[h1];rfl⟩))]
  exact h3
 refine⟨?_,fun k hF=>?_⟩
 ·cases c with
  | hd hh=>
   have hI:HInv w cb B (.pointer none) hh:=h
   obtain⟨vl,vh,q1,q2,q3⟩:=hI.ex
   exact⟨⟨vl,vh,hc.trans q1,aa cb 1 (fun k hF=>Or.inl hF) (z8 q1) q2,aa cb 4 (fun k hF=>Or.inl hF) (z8 q1) q3⟩,hI.low⟩
  | bd p=>
   obtain⟨pb,hb,hp,ab⟩:=h
   obtain⟨vd,p1,p2⟩:=hp.ex
   exact⟨pb,hc.trans hb,⟨⟨vd,(hk pb (ki hb (Or.inl rfl))).trans p1,p2.keep (fun k q=>hk k (ki hb (Or.inr ⟨1,vd,z8 p1,q⟩)))⟩,hp.low⟩,ab⟩
 ·rcases hF with hF | ⟨pb,h1,h2⟩
  ·exact Or.inl (jo hc hF)
  ·rw[jA hc] at h1
   exact Or.inr ⟨pb,h1,jo (hk pb (Or.inr ⟨pb,h1,Or.inl rfl⟩)) h2⟩
def YF (w:World)(yb:Nat)(ps:List (Option Nat))(k:Nat):Prop:=HF w yb k\/∃i cb:Nat,ps[i]?=some (some cb)/\CF w cb k
structure YMv (w w':World) (yb:Nat) (ps ps':List (Option Nat)):Prop where
 turn:Turn w w' (YF w yb ps)
 foot:∀k,YF w' yb ps' k->YF w yb ps k\/w.heap.size<=k
theorem YMv.refl (w:World)(yb:Nat)(ps:List (Option Nat)):YMv w w yb ps ps:=⟨Turn.refl _ _,fun _ h=>Or.inl h⟩
theorem YMv.trans {w x y:World}{yb:Nat}{ps ps' aa:List (Option Nat)}(h1:YMv w x yb ps ps')(h2:YMv x y yb ps' aa):YMv w y yb ps aa:=by
 refine⟨⟨h2.turn.os.trans h1.turn.os,h2.turn.tape.trans h1.turn.tape,h2.turn.output.trans h1.turn.output,zp h1.turn.size h2.turn.size,fun k hk hn=>(h2.turn.block k (yU hk h1.turn.size) (fun hF=>?_)).trans (h1.turn.block k hk hn)⟩,fun k hk=>?_⟩
 ·rcases h1.foot k hF with q | q
  ·exact hn q
  ·omega
 ·rcases h2.foot k hk with q | q
  ·exact h1.foot k q
  ·exact Or.inr (zp h1.turn.size q)
theorem QRow.block {w:World}{B:Nat}{e:TypeId}{v:Value}{xs:List Value}(h:QRow w B e v xs):∀k,v.ownBlock=some k->B<=k/\∃cs,w.heap[k]?=some (.cells cs e (0,0)):=by
 obtain⟨ao,b,ab,aa,rfl,hc,hb⟩:=h
 intro k hk
 cases ao with
 | none=>cases hk
 | some a=>
  obtain⟨h1,h2⟩:=hb a rfl
  have e:k=b:=by simp only[Value.ownBlock,Option.some.injEq] at hk;omega
  rw[e]
  exact h2
theorem QRow.keep {w w':World}{B:Nat}{e:TypeId}{v:Value}{xs:List Value}(h:QRow w B e v xs)(hs:w.heap.size<=w'.heap.size)(hk:∀k,v.ownBlock=some k->w'.heap[k]?=w.heap[k]?):QRow w' B e v xs:=by
 obtain⟨ao,b,aa,ab,rfl,hc,hb⟩:=h
 cases ao with
 | none=>
  have h0:ab=0:=by
   rcases Nat.eq_zero_or_pos ab with h | h
   ·exact h
   ·have:=hc.addr h;cases this
  subst h0
  have hl:xs.length=0:=Nat.le_zero.1 hc.le
  have hx:xs=[]:=List.eq_nil_of_length_eq_zero hl
  subst hx
  exact⟨none,b,aa,0,rfl,⟨zZ _,fun h=>by omega,fun h=>by omega,rfl,fun j u h=>by simp at h,fun j h=>by simp at h⟩,fun a h=>by cases h⟩
 | some a=>
  obtain⟨h1,h2,cs,h3⟩:=hb a rfl
  have hq:=hk b (by rw[<-h1];rfl)
  refine⟨some a,b,aa,ab,rfl,⟨hc.le,hc.addr,fun h=>yU (hc.lt h) hs,hc.oldsLen,fun j u h=>(World.cell?_of_block (a:=⟨b,aa+j,none⟩) hq).trans (hc.olds j u h),fun j h=>?_⟩,fun a' h=>by cases h;exact⟨h1,h2,cs,hq.trans h3⟩⟩
  rw[World.cell?_of_block (a:=⟨b,aa+xs.length*1+j,none⟩) hq,World.frozen?_of_block (a:=⟨b,aa+xs.length*1+j,none⟩) hq]
  exact hc.spare j h
theorem xA {w w':World}{B:Nat}{e:TypeId}{s:Nat}{v:Value}{n:Nat}{xs:List Value}(ho:w.ownsRow B e s v n xs)(hk:∀k,v.ownBlock=some k->w'.heap[k]?=w.heap[k]?):w'.ownsRow B e s v n xs:=
 ⟨ho.1,ho.2.imp id fun⟨g,cap,cur,h1,h2,h3,h4⟩=>⟨g,cap,cur,h1,h2,by rw[hk g (by rw[h1];rfl)];exact h3,h4⟩⟩
theorem YInv.keep {w w':World}{yb B:Nat}{tv:Value}{ps:List (Option Nat)}{y:Yd}(h:YInv w yb B tv ps y)(hs:w.heap.size<=w'.heap.size)(hk:∀k,YF w yb ps k->w'.heap[k]?=w.heap[k]?):YInv w' yb B tv ps y/\∀k,YF w' yb ps k->YF w yb ps k:=by
 obtain⟨vd,vc,vs,h1,h2,h3,h4⟩:=h.ex
 have hy:w'.heap[yb]?=w.heap[yb]?:=hk yb (Or.inl (Or.inl rfl))
 have cf:∀i cb:Nat,ps[i]?=some (some cb)->∀k,CF w' cb k->CF w cb k:=fun i cb hi=>by
  obtain⟨c,_,q⟩:=h.here i cb hi
  exact(q.keep (fun k hF=>hk k (Or.inr ⟨i,cb,hi,hF⟩))).2
 refine⟨⟨⟨vd,vc,vs,hy.trans h1,h2.keep hs (fun k q=>hk k (Or.inl (Or.inr ⟨1,vd,z8 h1,q⟩))),xA h3 (fun k q=>hk k (Or.inl (Or.inr ⟨2,vc,z8 h1,q⟩))),xA h4 (fun k q=>hk k (Or.inl (Or.inr ⟨3,vs,z8 h1,q⟩)))⟩,h.low,h.len,fun i cb hi=>?_,h.gone,fun i j cb cb' hij hi hj k q q'=>h.apart i j cb cb' hij hi hj k (cf i cb hi k q) (cf j cb' hj k q')⟩,fun k hF=>?_⟩
 ·obtain⟨c,q1,q2⟩:=h.here i cb hi
  exact⟨c,q1,(q2.keep (fun k hF=>hk k (Or.inr ⟨i,cb,hi,hF⟩))).1⟩
 ·rcases hF with hF | ⟨i,cb,hi,hF⟩
  ·exact Or.inl (jo hy hF)
  ·exact Or.inr ⟨i,cb,hi,cf i cb hi k hF⟩
def ydTypes:List TypeId:=[99,60,100,44]
theorem YInv.hf {w:World}{yb B k:Nat}{tv:Value}{ps:List (Option Nat)}{y:Yd}(h:YInv w yb B tv ps y)(ht:tv.ownBlock=none)(hk:HF w yb k):B<=k/\∃cs t,w.heap[k]?=some (.cells cs t (0,0))/\t∈ydTypes:=by
 obtain⟨vd,vc,vs,h1,h2,h3,h4⟩:=h.ex
 rcases hk with rfl | ⟨j,u,c1,c2⟩
 ·exact⟨h.low,_,_,h1,by decide⟩
 ·rw[z8 h1] at c1
  have hd:u=vd\/u=vc\/u=vs\/u.ownBlock=none:=by
   match j,c1 with
   | 0,c1=>simp at c1;subst c1;exact Or.inr (Or.inr (Or.inr ht))
   | 1,c1=>simp at c1;exact Or.inl c1.symm
   | 2,c1=>simp at c1;exact Or.inr (Or.inl c1.symm)
   | 3,c1=>simp at c1;exact Or.inr (Or.inr (Or.inl c1.symm))
   | j+4,c1=>simp at c1
  rcases hd with rfl | rfl | rfl | hd
  ·obtain⟨q,c,e⟩:=h2.block k c2
   exact⟨q,_,_,e,by decide⟩
  ·obtain⟨c,e⟩:=qH h3 k c2
   exact⟨(qh h3 k c2).1,_,_,e,by decide⟩
  ·obtain⟨c,e⟩:=qH h4 k c2
   exact⟨(qh h4 k c2).1,_,_,e,by decide⟩
  ·rw[hd] at c2;cases c2
theorem j0 {w:World}{k:Nat}(h1:∃cs t,w.heap[k]?=some (.cells cs t (0,0))/\t∈ydTypes)(h2:∃cs t f,w.heap[k]?=some (.cells cs t f)/\t∈cnTypes):False:=by
 obtain⟨c1,t1,e1,m1⟩:=h1
 obtain⟨c2,t2,f2,e2,m2⟩:=h2
 rw[e1] at e2
 simp only[Option.some.injEq,Obj.cells.injEq] at e2
 rw[<-e2.2.1] at m2
 have:∀t∈ydTypes,t ∉ cnTypes:=by decide
 exact this _ m1 m2
def Yd.isOpen (y:Yd)(n:Int):Bool:=decide (1<=n) && (decide (n<=y.conns.length) && (match y.conns[(n - 1).toNat]? with | some (some _)=>true | _=>false))
theorem YInv.same {w:World}{yb B:Nat}{tv:Value}{ps:List (Option Nat)}{y:Yd}(h:YInv w yb B tv ps y)(m:Nat)(hm:m<ps.length):y.isOpen (m+1:Nat)=ps[m].isSome:=by
 have hl:=h.len
 have e:ps[m]?=some ps[m]:=qN hm
 unfold Yd.isOpen
 have h1:decide ((1:Int)<=(m+1:Nat))=true:=decide_eq_true (by omega)
 have h2:decide (((m+1:Nat):Int)<=y.conns.length)=true:=decide_eq_true (by omega)
 have h3:(((m+1:Nat):Int) - 1).toNat=m:=by omega
 rw[h1,h2,h3]
 cases hp:ps[m] with
 | none=>rw[hp] at e;rw[h.gone m e];rfl
 | some cb=>rw[hp] at e;obtain⟨c,q,_⟩:=h.here m cb e;rw[q];rfl
theorem fy {w:World}{B:Nat}{a:Option Addr}{k:Nat}{ps:List (Option Nat)}(h:w.ownsRow B 100 1 (.slice a ps.length k) ps.length (ps.map ptrV))(m:Nat)(hm:m<ps.length):∃g aa,a=some ⟨g,0,none⟩/\k=aa/\w.cell? ⟨g,m,none⟩=some (ptrV ps[m])/\w.frozen? ⟨g,m,none⟩=false:=by
 obtain⟨g,aa,e1,_,_⟩:=World.ownsRow.form h (by omega)
 simp only[qc,true_and] at e1
 obtain⟨rfl,rfl⟩:=e1
 refine⟨g,_,rfl,rfl,?_,World.ownsRow.frozenAt h m⟩
 rw[xd h m (by omega),List.getElem?_map,qN hm]
 rfl
theorem fq {w:World}{yb B:Nat}{tv:Value}{ps:List (Option Nat)}{y:Yd}(h:YInv w yb B tv ps y)(n:Int)(hl:ps.length<=1000000) :
  Calls Tryz.prog 46 #[.pointer (some ⟨yb,0,none⟩),.int .i64 n] w fun e w'=>e = .returned (.bool (y.isOpen n))/\w'=w:=by
 obtain⟨vd,vc,vs,h1,h2,h3,h4⟩:=h.ex
 obtain⟨ca,ck,rfl⟩:=zP h3
 have k2:w.cell? ⟨yb,2,none⟩=some (.slice ca ps.length ck):=z8 h1
 have ad:=h.len
 by_cases hn:1<=n
 ·by_cases hm:n<=ps.length
  ·obtain⟨m,rfl⟩:∃m:Nat,n=(m+1:Nat):=⟨(n - 1).toNat,by omega⟩
   have aa:m<ps.length:=by omega
   have ae:(m:Int)<ps.length:=by omega
   have HS:=hid (h.same m aa)
   obtain⟨g,ab,rfl,rfl,c1,_⟩:=fy h3 m aa
   clear h h1 h2 h3 h4
   generalize y.isOpen (m+1:Nat)=r at*
   cases hp:ps[m] with
   | none=>
    rw[hp] at c1 HS
    have HE:Y (r=false):=HS.o
    clear HS hp
    simp only[ptrV] at c1
    go_enter Tryz.func46,Tryz.ntmps46
    go_wp2
    go_ret
    exact⟨by rw[HE.o];exact za (by first | rfl | simp),rfl⟩
   | some cb=>
    rw[hp] at c1 HS
    have HE:Y (r=true):=HS.o
    clear HS hp
    simp only[ptrV] at c1
    go_enter Tryz.func46,Tryz.ntmps46
    go_wp2
    go_ret
    exact⟨by rw[HE.o];exact za (by first | rfl | simp),rfl⟩
  ·have HE:Y (y.isOpen n=false):=by
    show _=_
    unfold Yd.isOpen
    rw[decide_eq_false (show ¬n<=y.conns.length by omega)];simp
   generalize y.isOpen n=r at*
   clear h h1 h2 h3 h4
   go_enter Tryz.func46,Tryz.ntmps46
   go_wp2
   go_ret
   exact⟨by rw[HE.o];exact za (by first | rfl | simp),rfl⟩
 ·have HE:Y (y.isOpen n=false):=by
   show _=_
   unfold Yd.isOpen
   rw[decide_eq_false hn];rfl
  generalize y.isOpen n=r at*
  clear h h1 h2 h3 h4
  go_enter Tryz.func46,Tryz.ntmps46
  go_wp2
  go_ret
  exact⟨by rw[HE.o];exact za (by first | rfl | simp),rfl⟩
theorem YInv.own {w w':World}{yb B:Nat}{tv tv':Value}{ps ps':List (Option Nat)}{y y':Yd}(h:YInv w yb B tv ps y)(ht:tv.ownBlock=none)(m:HMv w w' yb)
  (ab:∃vd vc vs,w'.heap[yb]?=some (.cells #[tv',vd,vc,vs] 99 (0,0))/\QRow w' B 60 vd (y'.draws.map drawV)/\w'.ownsRow B 100 1 vc ps'.length (ps'.map ptrV)/\w'.ownsRow B 44 3 vs y'.sent.length (evCells y'.sent))
  (ae:ps'.length=y'.conns.length) (aa:∀i cb:Nat,ps'[i]?=some (some cb)->ps[i]?=some (some cb)/\y'.conns[i]?=y.conns[i]?) (ad:∀i:Nat,ps'[i]?=some none->y'.conns[i]?=some none):YInv w' yb B tv' ps' y'/\YMv w w' yb ps ps':=by
 have kp:∀i cb:Nat,ps[i]?=some (some cb)->∀k,CF w cb k->w'.heap[k]?=w.heap[k]?:=fun i cb hi k hk=>by
  obtain⟨c,_,q⟩:=h.here i cb hi
  exact m.turn.block k (q.lt hk) (fun hF=>j0 (h.hf ht hF).2 (q.cf hk).2)
 have cf:∀i cb:Nat,ps'[i]?=some (some cb)->∀k,CF w' cb k->CF w cb k:=fun i cb hi=>by
  obtain⟨c,_,q⟩:=h.here i cb (aa i cb hi).1
  exact(q.keep (kp i cb (aa i cb hi).1)).2
 refine⟨⟨ab,h.low,ae,fun i cb hi=>?_,ad,fun i j cb cb' hij hi hj k q q'=>h.apart i j cb cb' hij (aa i cb hi).1 (aa j cb' hj).1 k (cf i cb hi k q) (cf j cb' hj k q')⟩,⟨⟨m.turn.os,m.turn.tape,m.turn.output,m.turn.size,fun k hk hn=>m.turn.block k hk (fun hF=>hn (Or.inl hF))⟩,fun k hF=>?_⟩⟩
 ·obtain⟨c,q1,q2⟩:=h.here i cb (aa i cb hi).1
  exact⟨c,by rw[(aa i cb hi).2];exact q1,(q2.keep (kp i cb (aa i cb hi).1)).1⟩
 ·rcases hF with hF | ⟨i,cb,hi,hF⟩
  ·rcases m.foot k hF with q | q
   ·exact Or.inl (Or.inl q)
   ·exact Or.inr q
  ·exact Or.inl (Or.inr ⟨i,cb,(aa i cb hi).1,cf i cb hi k hF⟩)
def Yd.ended (y:Yd)(m:Nat):Yd:={ y with conns:=y.conns.set m none }
theorem zpJ {w:World}{yb B:Nat}{tv:Value}{ps:List (Option Nat)}{y:Yd}(h:YInv w yb B tv ps y)(ht:tv.ownBlock=none)(m:Nat)(hm:m<ps.length)(hl:ps.length<=1000000) :
  Calls Tryz.prog 48 #[.pointer (some ⟨yb,0,none⟩),.int .i64 (m+1:Nat)] w fun e w'=>e = .returned (.tuple #[])/\YInv w' yb B tv (ps.set m none) (y.ended m)/\YMv w w' yb ps (ps.set m none):=by
 obtain⟨vd,vc,vs,h1,h2,h3,h4⟩:=h.ex
 obtain⟨ca,ck,rfl⟩:=zP h3
 have k2:w.cell? ⟨yb,2,none⟩=some (.slice ca ps.length ck):=z8 h1
 obtain⟨g,ad,rfl,rfl,c1,f1⟩:=fy h3 m hm
 have ae:(m:Int)<ps.length:=by omega
 have hs:=World.ownsRow.stored h3 m (.pointer none)
 have aa:=zV h1 h3 (by decide)
 have ab:g≠yb:=aa g rfl
 have M:=HMv.row k2 (zE h1) (w':=w.setCell ⟨g,m,none⟩ (.pointer none)) hs.2 aa
 have hE:=hid (h.own (tv':=tv) (ps':=ps.set m none) (y':=y.ended m) ht M ⟨vd,_,vs,zB h1 hs.2 (by simp;exact fun e=>ab e.symm),h2.keep M.turn.size (fun k hk=>hs.2.block k (by obtain⟨_,_,e⟩:=h2.block k hk;exact zE e) (fun e=>by
   obtain⟨_,_,e1⟩:=h2.block k hk
   obtain⟨_,e2⟩:=qH h3 k e.symm
   rw[e1] at e2
   simp at e2)),by rw[List.length_set,List.map_set];exact hs.1,zS h4 hs.2 (fun k hk e=>xW h3 h4 (by decide) k hk (by rw[e];rfl))⟩ (by show _=(y.conns.set m none).length;rw[List.length_set,List.length_set];exact h.len) (fun i cb hi=>by
   by_cases e:m=i
   ·subst e;rw[List.getElem?_set_self (by omega)] at hi;simp at hi
   ·rw[List.getElem?_set_ne e] at hi;exact⟨hi,List.getElem?_set_ne e⟩) (fun i hi=>by
   show(y.conns.set m none)[i]?=_
   by_cases e:m=i
   ·subst e;rw[List.getElem?_set_self (by have:=h.len;omega)]
   ·rw[List.getElem?_set_ne e] at hi ⊢;exact h.gone i hi))
 clear h h1 h2 h3 h4 hs aa M
 generalize ps[m]=q at*
 go_enter Tryz.func48,Tryz.ntmps48
 go_wp2
 go_end0
 exact⟨rfl,hE.o⟩
theorem zp6:(Tryz.prog.info? 44).map (fun i=>(i.zero,i.size,i.bytes))=some (some (.agg #[.int .i64 0,.string ⟨#[]⟩,.string ⟨#[]⟩]),3,40):=by kernel_rfl
def Yd.send (y:Yd)(e:Ev):Yd:={ y with sent:=y.sent++[e] }
theorem YInv.sent {w w':World}{yb B:Nat}{tv vd vc vs:Value}{ps:List (Option Nat)}{y:Yd}(h:YInv w yb B tv ps y)(ht:tv.ownBlock=none)(h1:w.heap[yb]?=some (.cells #[tv,vd,vc,vs] 99 (0,0)))(h2:QRow w B 60 vd (y.draws.map drawV))(h3:w.ownsRow B 100 1 vc ps.length (ps.map ptrV))(h4:w.ownsRow B 44 3 vs y.sent.length (evCells y.sent))(m:HMv w w' yb){v:Value}{l:List Ev}
  (b:w'.heap[yb]?=some (.cells #[tv,vd,vc,v] 99 (0,0))) (hr:w'.ownsRow B 44 3 v l.length (evCells l)) (hk:∀k,k<w.heap.size->vs.ownBlock≠some k->k≠yb->w'.heap[k]?=w.heap[k]?):YInv w' yb B tv ps { y with sent:=l }/\YMv w w' yb ps ps:=by
 refine h.own ht m ⟨vd,vc,v,b,h2.keep m.turn.size (fun k q=>?_),xA h3 (fun k q=>?_),hr⟩ h.len (fun i cb hi=>⟨hi,rfl⟩) h.gone
 ·obtain⟨_,cs,e⟩:=h2.block k q
  refine hk k (zE e) (fun e2=>?_) (fun e2=>?_)
  ·obtain⟨c,e3⟩:=qH h4 k e2
   rw[e] at e3;simp at e3
  ·rw[e2,h1] at e;simp at e
 ·obtain⟨cs,e⟩:=qH h3 k q
  refine hk k (zE e) (fun e2=>?_) (fun e2=>?_)
  ·obtain⟨c,e3⟩:=qH h4 k e2
   rw[e] at e3;simp at e3
  ·rw[e2,h1] at e;simp at e
theorem zfS {w:World}{yb B:Nat}{tv:Value}{ps:List (Option Nat)}{y:Yd}(h:YInv w yb B tv ps y)(ht:tv.ownBlock=none)(n:Nat)(a d:List UInt8)(hn:y.sent.length<=1000000000)(hB:B<=w.heap.size) :
  Calls Tryz.prog 81 #[.pointer (some ⟨yb,0,none⟩),.int .i64 n,.string (R.str a),.string (R.str d)] w fun e w'=>e = .returned (.tuple #[])/\YInv w' yb B tv ps (y.send ⟨n,a,d⟩)/\YMv w w' yb ps ps:=by
 obtain⟨i0,hi,ay,az,aA⟩:=info_parts zp6
 obtain⟨vd,vc,vs,h1,h2,h3,h4⟩:=h.ex
 obtain⟨sa,sk,rfl⟩:=zP h4
 have k3:w.cell? ⟨yb,3,none⟩=some (.slice sa y.sent.length sk):=z8 h1
 have HT:Y (y.send ⟨n,a,d⟩={ y with sent:=y.sent++[⟨n,a,d⟩] }):=rfl
 have gX:=hid (zJ w (.cells #[.int .i64 n,.string (R.str a),.string (R.str d)] 44) none)
 have ag:=J (zO h4 gX.o (fun k hk c=>by cases c))
 have ar:Y (∀j u,([.int .i64 n,.string (R.str a),.string (R.str d)]:List Value)[j]?=some u->(w.alloc (.cells #[.int .i64 n,.string (R.str a),.string (R.str d)] 44)).cell? ((⟨w.heap.size,0,none⟩:Addr).add j)=some u):=qI w #[_,_,_] _ _ rfl
 have am:Y (∀u∈([.int .i64 n,.string (R.str a),.string (R.str d)]:List Value),u.oneCell'=true):=fun u hu=>by simp at hu;rcases hu with rfl | rfl | rfl <;> rfl
 have aq:Y (y.sent.length+1<=maxLen):=by show _<=_;unfold maxLen;omega
 have aw:Y ((y.sent.length+1)*40<=140737488355328):=by show _<=_;omega
 have ad:Y ((w.alloc (.cells #[.int .i64 n,.string (R.str a),.string (R.str d)] 44)).heap.size=w.heap.size+1):=by show _=_;simp
 have an:Y (B<=(w.alloc (.cells #[.int .i64 n,.string (R.str a),.string (R.str d)] 44)).heap.size):=by show _<=_;rw[ad.o];omega
 have ab:=hid (zB h1 gX.o (by simp))
 have ae:=hid (zV ab.o ag.o (by decide))
 have kX:(w.alloc (.cells #[.int .i64 n,.string (R.str a),.string (R.str d)] 44)).cell? ⟨yb,3,none⟩=some (.slice sa y.sent.length sk):=z8 ab.o
 have ax:=zE ab.o
 have ao:Y (∀g9 aa w9,w9.ownsRow B 44 3 (.slice (some ⟨g9,0,none⟩) (y.sent.length+1) aa) (y.sent.length+1) (evCells y.sent++[.int .i64 n,.string (R.str a),.string (R.str d)])->(w.alloc (.cells #[.int .i64 n,.string (R.str a),.string (R.str d)] 44)).grownBy w9 (Value.slice sa y.sent.length sk).ownBlock->((Value.slice sa y.sent.length sk).ownBlock=some g9\/g9=w.heap.size+1)->YInv (w9.setCell ⟨yb,3,none⟩ (.slice (some ⟨g9,0,none⟩) (y.sent.length+1) aa)) yb B tv ps { y with sent:=y.sent++[⟨n,a,d⟩] }/\YMv w (w9.setCell ⟨yb,3,none⟩ (.slice (some ⟨g9,0,none⟩) (y.sent.length+1) aa)) yb ps ps):=fun g9 aa w9 ho hg hat=>by
  have aj:=qM ab.o hg ae.o
  have gs:=zD w9 yb 3 (.slice (some ⟨g9,0,none⟩) (y.sent.length+1) aa)
  refine h.sent ht h1 h2 h3 h4 ((HMv.of_grown (zE h1) gX.o).trans (HMv.append kX ax hg ae.o (by rcases hat with h | h;exact Or.inl h;exact Or.inr (by rw[h,ad.o])))) (zF (i:=3) aj _) ?_ (fun k hk hv hy=>?_)
  ·have:=zS ho gs (zV aj ho (by decide))
   rw[zW,zc2]
   exact this
  ·have ak:k<(w.alloc (.cells #[.int .i64 n,.string (R.str a),.string (R.str d)] 44)).heap.size:=by rw[ad.o];omega
   exact(gs.block k (yU ak hg.size) (by simpa using hy)).trans ((hg.block k ak (fun e=>hv e.symm)).trans (gX.o.block k hk (by simp)))
 have HQ:=hid h1
 clear h h1 h2 h3 h4
 generalize y.send ⟨n,a,d⟩=y' at*
 go_enter Tryz.func81,Tryz.ntmps81
 go_wp2_with (at_builtin;refine wpList_append_lies _ rfl (.tmp 12) (.tmp 17) 41 rfl B 44 i0 _ 3 40 Tryz.underlying41 hi ay az aA rfl (by decide) _ _ _ rfl ag.o ⟨w.heap.size,0,none⟩ 1 1 [.int .i64 n,.string (R.str a),.string (R.str d)] rfl rfl ar.o am.o (by decide) aq.o aw.o an.o (w.heap.size+1) ad.o ?_)
 intro g9 aa w9 al af ai _
 have au:=hid al
 have ap:=hid af
 have av:=hid ai
 have ah:=hid (qM ab.o af ae.o)
 have q9:w9.cell? ⟨yb,3,none⟩=some (.slice sa y.sent.length sk):=z8 ah.o
 have f9:=zrB 3 ah.o
 clear al af ai
 go_wp2
 go_end0
 exact⟨rfl,by rw[HT.o];exact ao.o _ _ _ au.o ap.o av.o⟩
def Yd.told (y:Yd):Yd:={ y with sent:=[] }
theorem zhU {w:World}{yb B:Nat}{tv:Value}{ps:List (Option Nat)}{y:Yd}(h:YInv w yb B tv ps y)(ht:tv.ownBlock=none) :
  Calls Tryz.prog 28 #[.pointer (some ⟨yb,0,none⟩)] w fun e w'=>∃v,e = .returned v/\YInv w' yb B tv ps y.told/\YMv w w' yb ps ps/\w'.ownsRow B 44 3 v y.sent.length (evCells y.sent)/\(∀k,v.ownBlock=some k->¬YF w' yb ps k):=by
 obtain⟨vd,vc,vs,h1,h2,h3,h4⟩:=h.ex
 obtain⟨sa,sk,rfl⟩:=zP h4
 have k3:w.cell? ⟨yb,3,none⟩=some (.slice sa y.sent.length sk):=z8 h1
 have f3:=zrB 3 h1
 have gs:=zD w yb 3 (.slice none 0 0)
 have b9:=zF (i:=3) h1 (.slice none 0 0)
 have HE:=hid (h.sent ht h1 h2 h3 h4 (w':=w.setCell ⟨yb,3,none⟩ (.slice none 0 0)) (v:=.slice none 0 0) (l:=[]) (HMv.set k3 (fun k hk=>by cases hk)) b9 (xS _ _ _ _) (fun k hk _ hy=>gs.block k hk (by simpa using hy)))
 have h9:=zS h4 gs (zV h1 h4 (by decide))
 have HR:=hid h9
 have HN:Y (∀k,(Value.slice sa y.sent.length sk).ownBlock=some k->¬YF (w.setCell ⟨yb,3,none⟩ (.slice none 0 0)) yb ps k):=fun k hk hF=>by
  obtain⟨cs,e⟩:=qH h9 k hk
  rcases hF with hF | ⟨i,cb,hi,hF⟩
  ·rcases hF with rfl | ⟨j,u,c1,c2⟩
   ·rw[b9] at e;simp at e
   ·rw[z8 b9] at c1
    match j,c1 with
    | 0,c1=>simp at c1;subst c1;rw[ht] at c2;cases c2
    | 1,c1=>
     simp at c1;subst c1
     obtain⟨ab,aa,ad,e1,e2,_⟩:=HE.o.1.ex
     rw[b9] at e1
     simp at e1
     rw[e1.1] at c2
     obtain⟨_,c,e3⟩:=e2.block k c2
     rw[e] at e3;simp at e3
    | 2,c1=>
     simp at c1;subst c1
     obtain⟨ab,aa,ad,e1,_,e2,_⟩:=HE.o.1.ex
     rw[b9] at e1
     simp at e1
     rw[e1.2.1] at c2
     obtain⟨c,e3⟩:=qH e2 k c2
     rw[e] at e3;simp at e3
    | 3,c1=>simp at c1;subst c1;cases c2
    | j+4,c1=>simp at c1
  ·obtain⟨c,_,q⟩:=HE.o.1.here i cb hi
   obtain⟨_,c2,t,f,e2,e3⟩:=q.cf hF
   rw[e] at e2
   simp at e2
   rw[<-e2.2.1] at e3
   revert e3;decide
 clear h h1 h2 h3 h4 gs b9 h9
 go_enter Tryz.func28,Tryz.ntmps28
 go_wp2
 go_ret
 exact⟨_,rfl,HE.o.1,HE.o.2,HR.o,HN.o⟩
theorem zp5:(Tryz.prog.info? 100).map (fun i=>(i.zero,i.size,i.bytes))=some (some (.pointer none),1,8):=by kernel_rfl
theorem YInv.more {w w':World}{yb B aa:Nat}{tv:Value}{ps:List (Option Nat)}{y y':Yd}{c0:Cn}(h:YInv w yb B tv ps y)(ht:tv.ownBlock=none)(m:HMv w w' yb)
  (ae:∃vd vc vs,w'.heap[yb]?=some (.cells #[tv,vd,vc,vs] 99 (0,0))/\QRow w' B 60 vd (y'.draws.map drawV)/\w'.ownsRow B 100 1 vc (ps++[some aa]).length ((ps++[some aa]).map ptrV)/\w'.ownsRow B 44 3 vs y'.sent.length (evCells y'.sent))
  (hc:y'.conns=y.conns++[some c0]) (h0:CAt w' aa B c0) (hn:∀k,CF w' aa k->w.heap.size<=k):YInv w' yb B tv (ps++[some aa]) y'/\YMv w w' yb ps (ps++[some aa]):=by
 have hl:=h.len
 have kp:∀i cb:Nat,ps[i]?=some (some cb)->∀k,CF w cb k->w'.heap[k]?=w.heap[k]?:=fun i cb hi k hk=>by
  obtain⟨c,_,q⟩:=h.here i cb hi
  exact m.turn.block k (q.lt hk) (fun hF=>j0 (h.hf ht hF).2 (q.cf hk).2)
 have cf:∀i cb:Nat,ps[i]?=some (some cb)->∀k,CF w' cb k->CF w cb k/\k<w.heap.size:=fun i cb hi k hk=>by
  obtain⟨c,_,q⟩:=h.here i cb hi
  have:=(q.keep (kp i cb hi)).2 k hk
  exact⟨this,q.lt this⟩
 have ab:∀i cb:Nat,(ps++[some aa])[i]?=some (some cb)->(i<ps.length/\ps[i]?=some (some cb))\/(i=ps.length/\cb=aa):=fun i cb hi=>by
  by_cases ad:i<ps.length
  ·rw[List.getElem?_append_left ad] at hi;exact Or.inl ⟨ad,hi⟩
  ·rw[List.getElem?_append_right (by omega)] at hi
   have h9:=(List.getElem?_eq_some_iff.1 hi).1
   have e:i - ps.length=0:=by simpa using h9
   rw[e] at hi
   simp at hi
   exact Or.inr ⟨by omega,hi.symm⟩
 refine⟨⟨ae,h.low,by rw[hc,zW,zW,hl];rfl,fun i cb hi=>?_,fun i hi=>?_,fun i j cb cb' hij hi hj k q q'=>?_⟩,⟨⟨m.turn.os,m.turn.tape,m.turn.output,m.turn.size,fun k hk hn=>m.turn.block k hk (fun hF=>hn (Or.inl hF))⟩,fun k hF=>?_⟩⟩
 ·rcases ab i cb hi with ⟨h1,h2⟩ | ⟨h1,h2⟩
  ·obtain⟨c,q1,q2⟩:=h.here i cb h2
   exact⟨c,by rw[hc,List.getElem?_append_left (by omega)];exact q1,(q2.keep (kp i cb h2)).1⟩
  ·rw[h2]
   exact⟨c0,by rw[hc,List.getElem?_append_right (by omega),h1,hl,Nat.sub_self];rfl,h0⟩
 ·by_cases ad:i<ps.length
  ·rw[List.getElem?_append_left ad] at hi
   rw[hc,List.getElem?_append_left (by omega)]
   exact h.gone i hi
  ·rw[List.getElem?_append_right (by omega)] at hi
   have h9:=(List.getElem?_eq_some_iff.1 hi).1
   have e:i - ps.length=0:=by simpa using h9
   rw[e] at hi
   simp at hi
 ·rcases ab i cb hi with ⟨h1,h2⟩ | ⟨h1,h2⟩
  ·rcases ab j cb' hj with ⟨h3,h4⟩ | ⟨h3,h4⟩
   ·exact h.apart i j cb cb' hij h2 h4 k (cf i cb h2 k q).1 (cf j cb' h4 k q').1
   ·rw[h4] at q'
    have:=hn k q'
    have:=(cf i cb h2 k q).2
    omega
  ·rcases ab j cb' hj with ⟨h3,h4⟩ | ⟨h3,h4⟩
   ·rw[h2] at q
    have:=hn k q
    have:=(cf j cb' h4 k q').2
    omega
   ·omega
 ·rcases hF with hF | ⟨i,cb,hi,hF⟩
  ·rcases m.foot k hF with q | q
   ·exact Or.inl (Or.inl q)
   ·exact Or.inr q
  ·rcases ab i cb hi with ⟨h1,h2⟩ | ⟨h1,h2⟩
   ·exact Or.inl (Or.inr ⟨i,cb,h2,(cf i cb h2 k hF).1⟩)
   ·rw[h2] at hF;exact Or.inr (hn k hF)
theorem zoH {w:World}{cb k:Nat}(hb:w.heap[cb]?=some (.cells #[.int .i64 0,.slice none 0 0,.string ⟨#[]⟩,.string ⟨#[]⟩,.slice none 0 0,.pointer none] 106 (0,0)))(hk:CF w cb k):k=cb:=by
 rcases hk with hk | ⟨pb,h1,h2⟩
 ·rcases hk with rfl | ⟨j,u,c1,c2⟩
  ·rfl
  ·rw[z8 hb] at c1
   exfalso
   match j,c1 with
   | 0,c1=>simp at c1;subst c1;cases c2
   | 1,c1=>simp at c1;subst c1;cases c2
   | 2,c1=>simp at c1;subst c1;cases c2
   | 3,c1=>simp at c1;subst c1;cases c2
   | 4,c1=>simp at c1;subst c1;cases c2
   | 5,c1=>simp at c1;subst c1;cases c2
   | j+6,c1=>simp at c1
 ·rw[z8 hb] at h1;simp at h1
def Yd.opened (y:Yd):Yd:={ y with conns:=y.conns++[some (.hd Rq.zero)] }
theorem znB {w:World}{yb B:Nat}{tv:Value}{ps:List (Option Nat)}{y:Yd}(h:YInv w yb B tv ps y)(ht:tv.ownBlock=none)(hn:y.conns.length<64)(hB:B<=w.heap.size) :
  Calls Tryz.prog 24 #[.pointer (some ⟨yb,0,none⟩)] w fun e w'=>e = .returned (.tuple #[.int .i64 (y.conns.length+1:Nat),.int .i64 0])/\YInv w' yb B tv (ps++[some w.heap.size]) y.opened/\YMv w w' yb ps (ps++[some w.heap.size]):=by
 obtain⟨i0,hi,aB,aC,aD⟩:=info_parts zp5
 obtain⟨vd,vc,vs,h1,h2,h3,h4⟩:=h.ex
 obtain⟨ca,ck,rfl⟩:=zP h3
 have k2:w.cell? ⟨yb,2,none⟩=some (.slice ca ps.length ck):=z8 h1
 have hl:=hid h.len
 have aG:ps.length<64:=by rw[hl.o];exact hn
 have aE:¬(ps.length:Int)=64:=by omega
 have HT:Y (y.opened={ y with conns:=y.conns++[some (.hd Rq.zero)] }):=rfl
 have aF:=zE h1
 have gX:=hid (zA (zJ w (.cells #[.int .i64 0,.slice none 0 0,.string ⟨#[]⟩,.string ⟨#[]⟩,.slice none 0 0,.pointer none] 106) none) (zJ (w.alloc (.cells #[.int .i64 0,.slice none 0 0,.string ⟨#[]⟩,.string ⟨#[]⟩,.slice none 0 0,.pointer none] 106)) (.cells #[.pointer (some ⟨w.heap.size,0,none⟩)] 100) none))
 have af:=J (zO h3 gX.o (fun k hk c=>by cases c))
 have aw:Y (∀j u,([.pointer (some ⟨w.heap.size,0,none⟩)]:List Value)[j]?=some u->((w.alloc (.cells #[.int .i64 0,.slice none 0 0,.string ⟨#[]⟩,.string ⟨#[]⟩,.slice none 0 0,.pointer none] 106)).alloc (.cells #[.pointer (some ⟨w.heap.size,0,none⟩)] 100)).cell? ((⟨w.heap.size+1,0,none⟩:Addr).add j)=some u):=by
  have:=qI (w.alloc (.cells #[.int .i64 0,.slice none 0 0,.string ⟨#[]⟩,.string ⟨#[]⟩,.slice none 0 0,.pointer none] 106)) #[.pointer (some ⟨w.heap.size,0,none⟩)] 100 _ rfl
  simp only[World.size_alloc] at this
  exact this
 have ap:Y (∀u∈([.pointer (some ⟨w.heap.size,0,none⟩)]:List Value),u.oneCell'=true):=fun u hu=>by simp at hu;subst hu;rfl
 have av:Y (ps.length+1<=maxLen):=by show _<=_;unfold maxLen;omega
 have az:Y ((ps.length+1)*8<=140737488355328):=by show _<=_;omega
 have ad:Y (((w.alloc (.cells #[.int .i64 0,.slice none 0 0,.string ⟨#[]⟩,.string ⟨#[]⟩,.slice none 0 0,.pointer none] 106)).alloc (.cells #[.pointer (some ⟨w.heap.size,0,none⟩)] 100)).heap.size=w.heap.size+1+1):=by show _=_;simp
 have aq:Y (B<=((w.alloc (.cells #[.int .i64 0,.slice none 0 0,.string ⟨#[]⟩,.string ⟨#[]⟩,.slice none 0 0,.pointer none] 106)).alloc (.cells #[.pointer (some ⟨w.heap.size,0,none⟩)] 100)).heap.size):=by show _<=_;rw[ad.o];omega
 have ab:=hid (zB h1 gX.o (by simp))
 have ae:=hid (zV ab.o af.o (by decide))
 have kX:((w.alloc (.cells #[.int .i64 0,.slice none 0 0,.string ⟨#[]⟩,.string ⟨#[]⟩,.slice none 0 0,.pointer none] 106)).alloc (.cells #[.pointer (some ⟨w.heap.size,0,none⟩)] 100)).cell? ⟨yb,2,none⟩=some (.slice ca ps.length ck):=z8 ab.o
 have aA:=zE ab.o
 have ah:=hid (zB (heap_alloc_new w (.cells #[.int .i64 0,.slice none 0 0,.string ⟨#[]⟩,.string ⟨#[]⟩,.slice none 0 0,.pointer none] 106)) (zJ (w.alloc (.cells #[.int .i64 0,.slice none 0 0,.string ⟨#[]⟩,.string ⟨#[]⟩,.slice none 0 0,.pointer none] 106)) (.cells #[.pointer (some ⟨w.heap.size,0,none⟩)] 100) none) (by simp))
 have ar:Y (∀g9 aa w9,w9.ownsRow B 100 1 (.slice (some ⟨g9,0,none⟩) (ps.length+1) aa) (ps.length+1) (ps.map ptrV++[.pointer (some ⟨w.heap.size,0,none⟩)])->((w.alloc (.cells #[.int .i64 0,.slice none 0 0,.string ⟨#[]⟩,.string ⟨#[]⟩,.slice none 0 0,.pointer none] 106)).alloc (.cells #[.pointer (some ⟨w.heap.size,0,none⟩)] 100)).grownBy w9 (Value.slice ca ps.length ck).ownBlock->((Value.slice ca ps.length ck).ownBlock=some g9\/g9=w.heap.size+1+1)->YInv (w9.setCell ⟨yb,2,none⟩ (.slice (some ⟨g9,0,none⟩) (ps.length+1) aa)) yb B tv (ps++[some w.heap.size]) { y with conns:=y.conns++[some (.hd Rq.zero)] }/\YMv w (w9.setCell ⟨yb,2,none⟩ (.slice (some ⟨g9,0,none⟩) (ps.length+1) aa)) yb ps (ps++[some w.heap.size])):=fun g9 aa w9 ho hg hat=>by
  have ak:=qM ab.o hg ae.o
  have gs:=zD w9 yb 2 (.slice (some ⟨g9,0,none⟩) (ps.length+1) aa)
  have ao:∀k,k<w.heap.size->(Value.slice ca ps.length ck).ownBlock≠some k->k≠yb->(w9.setCell ⟨yb,2,none⟩ (.slice (some ⟨g9,0,none⟩) (ps.length+1) aa)).heap[k]?=w.heap[k]?:=fun k hk hv hy=>by
   have al:k<((w.alloc (.cells #[.int .i64 0,.slice none 0 0,.string ⟨#[]⟩,.string ⟨#[]⟩,.slice none 0 0,.pointer none] 106)).alloc (.cells #[.pointer (some ⟨w.heap.size,0,none⟩)] 100)).heap.size:=by rw[ad.o];omega
   exact(gs.block k (yU al hg.size) (by simpa using hy)).trans ((hg.block k al (fun e=>hv e.symm)).trans (gX.o.block k hk (by simp)))
  have am:(w9.setCell ⟨yb,2,none⟩ (.slice (some ⟨g9,0,none⟩) (ps.length+1) aa)).heap[w.heap.size]?=some (.cells #[.int .i64 0,.slice none 0 0,.string ⟨#[]⟩,.string ⟨#[]⟩,.slice none 0 0,.pointer none] 106 (0,0)):=
   zB (qM ah.o hg (zV ah.o af.o (by decide))) gs (by simp;omega)
  refine h.more ht ((HMv.of_grown (zE h1) gX.o).trans (HMv.append kX aA hg ae.o (by rcases hat with h | h;exact Or.inl h;exact Or.inr (by rw[h,ad.o])))) ⟨vd,_,vs,zF (i:=2) ak _,h2.keep ?_ (fun k q=>?_),?_,xA h4 (fun k q=>?_)⟩ rfl ⟨⟨_,_,am,xS _ _ _ _,xS _ _ _ _⟩,hB⟩ (fun k hk=>by have:=zoH am hk;omega)
  ·have:=gX.o.size;have:=hg.size;have:=gs.size;omega
  ·obtain⟨_,cs,e⟩:=h2.block k q
   refine ao k (zE e) (fun e2=>?_) (fun e2=>?_)
   ·obtain⟨c,e3⟩:=qH h3 k e2
    rw[e] at e3;simp at e3
   ·rw[e2,h1] at e;simp at e
  ·have:=zS ho gs (zV ak ho (by decide))
   rw[zW,xy]
   exact this
  ·obtain⟨cs,e⟩:=qH h4 k q
   refine ao k (zE e) (fun e2=>?_) (fun e2=>?_)
   ·obtain⟨c,e3⟩:=qH h3 k e2
    rw[e] at e3;simp at e3
   ·rw[e2,h1] at e;simp at e
 have HR:Y ((y.conns.length+1:Nat)=ps.length+1):=by show _=_;rw[hl.o]
 clear hl hn h h1 h2 h3 h4
 generalize y.opened=y' at*
 go_enter Tryz.func24,Tryz.ntmps24
 go_wp2_with (at_builtin;refine wpList_append_lies _ rfl (.tmp 14) (.tmp 17) 97 rfl B 100 i0 _ 1 8 Tryz.underlying97 hi aB aC aD rfl (by decide) _ _ _ rfl af.o ⟨w.heap.size+1,0,none⟩ 1 1 [.pointer (some ⟨w.heap.size,0,none⟩)] rfl rfl aw.o ap.o (by decide) av.o az.o aq.o (w.heap.size+1+1) ad.o ?_)
 intro g9 aa w9 an ag aj _
 have ax:=hid an
 have au:=hid ag
 have ay:=hid aj
 have ai:=hid (qM ab.o ag ae.o)
 have q9:w9.cell? ⟨yb,2,none⟩=some (.slice ca ps.length ck):=z8 ai.o
 have f9:=zrB 2 ai.o
 clear an ag aj
 go_wp2
 go_ret2
 exact⟨by rw[HR.o];rfl,by rw[HT.o];exact ar.o _ _ _ ax.o au.o ay.o⟩
theorem YInv.open_at {w:World}{yb B:Nat}{tv:Value}{ps:List (Option Nat)}{y:Yd}(h:YInv w yb B tv ps y){n:Int}(ho:y.isOpen n=true):∃m:Nat,n=(m+1:Nat)/\m<ps.length/\∃cb c,ps[m]?=some (some cb)/\y.conns[m]?=some (some c)/\CAt w cb B c:=by
 have h1:1<=n/\n<=y.conns.length:=by
  unfold Yd.isOpen at ho
  simp only[Bool.and_eq_true,decide_eq_true_eq] at ho
  exact⟨ho.1,ho.2.1⟩
 have hl:=h.len
 obtain⟨m,rfl⟩:∃m:Nat,n=(m+1:Nat):=⟨(n - 1).toNat,by omega⟩
 have hm:m<ps.length:=by omega
 rw[h.same m hm] at ho
 obtain⟨cb,e⟩:=Option.isSome_iff_exists.1 ho
 have e2:ps[m]?=some (some cb):=by rw[qN hm,e]
 obtain⟨c,q1,q2⟩:=h.here m cb e2
 exact⟨m,rfl,hm,cb,c,e2,q1,q2⟩
def Yd.noRoute:List UInt8:=[72,84,84,80,47,49,46,49,32,52,48,52,32,78,111,116,32,70,111,117,110,100,13,10,99,111,110,116,101,110,116,45,108,101,110,103,116,104,58,32,48,13,10,13,10]
end Go.Proofs.YtfocdefchbnkpaaGreatDoor
