/- inOrder: hosts in the order of their names, rules in the order of their numbers. -/
import Derived.Test.YtfocdefchbnkpaaGreatDoorAli
import Derived.Test.YtfocdefchbnkpaaGreatDoorRefQ
import Derived.Shelf.Strings.BuilderK
set_option maxRecDepth 100000
set_option maxHeartbeats 20000000
namespace Go.Proofs.YtfocdefchbnkpaaGreatDoor
open Go.RowKit
theorem zcK (w:World):Calls Tryz.prog 276 #[.slice none 0 0,.int .i64 0,.int .i64 0,.func (.func 151) #[] #[]] w fun e w'=>e = .returned (.tuple #[])/\w'=w:=by
 go_enter Tryz.func276,Tryz.ntmps276
 go_wp2
 refine wp_loop_rounds 1 ?_
 rw[rounds_succ]
 go_wp2
 go_end0
 exact⟨rfl,rfl⟩
theorem zcO (l:Int)(w:World):Calls Tryz.prog 209 #[.slice none 0 0,.int .i64 0,.int .i64 0,.int .i64 l,.func (.func 151) #[] #[]] w fun e w'=>e = .returned (.tuple #[])/\w'=w:=by
 have hi:=zcK w
 go_enter Tryz.func209,Tryz.ntmps209
 go_wp2
 refine wp_loop_rounds 1 ?_
 rw[rounds_succ]
 go_wp2_with (go_at_call 276;refine hi.mono ?_;rintro e w' ⟨rfl,rfl⟩)
 (try simp only[Exit.inBlock,Exit.then]);refine bodyPost_ret (results_none rfl _ _ _) rfl ?_
 exact⟨rfl,rfl⟩
theorem tj (w:World):Calls Tryz.prog 150 #[.slice none 0 0,.func (.func 151) #[] #[]] w fun e w'=>e = .returned (.tuple #[])/\w'=w:=by
 have hp:=fun l=>zcO l w
 have hl:=Tryz.hlen 0 w (by omega)
 go_enter Tryz.func150,Tryz.ntmps150
 go_wp2_with (first | (go_at_call 210;refine hl.mono ?_;rintro e w' ⟨⟨l,rfl⟩,rfl⟩) | (go_at_call 209;refine(hp _).mono ?_;rintro e w' ⟨rfl,rfl⟩))
 go_end0
 exact⟨rfl,rfl⟩
theorem zcL (w:World):Calls Tryz.prog 286 #[.slice none 0 0,.int .i64 0,.int .i64 0,.func (.func 154) #[] #[]] w fun e w'=>e = .returned (.tuple #[])/\w'=w:=by
 go_enter Tryz.func286,Tryz.ntmps286
 go_wp2
 refine wp_loop_rounds 1 ?_
 rw[rounds_succ]
 go_wp2
 go_end0
 exact⟨rfl,rfl⟩
theorem zcP (l:Int)(w:World):Calls Tryz.prog 212 #[.slice none 0 0,.int .i64 0,.int .i64 0,.int .i64 l,.func (.func 154) #[] #[]] w fun e w'=>e = .returned (.tuple #[])/\w'=w:=by
 have hi:=zcL w
 go_enter Tryz.func212,Tryz.ntmps212
 go_wp2
 refine wp_loop_rounds 1 ?_
 rw[rounds_succ]
 go_wp2_with (go_at_call 286;refine hi.mono ?_;rintro e w' ⟨rfl,rfl⟩)
 (try simp only[Exit.inBlock,Exit.then]);refine bodyPost_ret (results_none rfl _ _ _) rfl ?_
 exact⟨rfl,rfl⟩
theorem tm (w:World):Calls Tryz.prog 153 #[.slice none 0 0,.func (.func 154) #[] #[]] w fun e w'=>e = .returned (.tuple #[])/\w'=w:=by
 have hp:=fun l=>zcP l w
 have hl:=Tryz.hlen 0 w (by omega)
 go_enter Tryz.func153,Tryz.ntmps153
 go_wp2_with (first | (go_at_call 210;refine hl.mono ?_;rintro e w' ⟨⟨l,rfl⟩,rfl⟩) | (go_at_call 212;refine(hp _).mono ?_;rintro e w' ⟨rfl,rfl⟩))
 go_end0
 exact⟨rfl,rfl⟩
structure Kept (B:Nat) (l:List TypeId) (w w':World):Prop where
 os:w'.os=w.os
 tape:w'.tape=w.tape
 output:w'.output=w.output
 size:w.heap.size<=w'.heap.size
 block:∀k,k<w.heap.size->(k<B\/∀c t f,w.heap[k]?=some (.cells c t f)->t ∉ l)->w'.heap[k]?=w.heap[k]?
theorem Kept.refl (B:Nat)(l:List TypeId)(w:World):Kept B l w w:=⟨rfl,rfl,rfl,zZ _,fun _ _ _=>rfl⟩
theorem Kept.trans {B:Nat}{l:List TypeId}{a b c:World}(h:Kept B l a b)(h2:Kept B l b c):Kept B l a c:=
 ⟨h2.os.trans h.os,h2.tape.trans h.tape,h2.output.trans h.output,zp h.size h2.size,fun k hk ht=>by
  have e:=h.block k hk ht
  rw[h2.block k (yU hk h.size) (ht.imp id fun ht c t f hb=>ht c t f (by rw[<-e];exact hb)),e]⟩
theorem Kept.floor {B B':Nat}{l:List TypeId}{a b:World}(h:Kept B l a b)(hB:B'<=B):Kept B' l a b:=⟨h.os,h.tape,h.output,h.size,fun k hk ht=>h.block k hk (ht.imp (fun h=>yU h hB) id)⟩
theorem Kept.grown {B:Nat}{l:List TypeId}{a b:World}(h:Kept B l a b)(hB:a.heap.size<=B):a.grownBy b none:=⟨h.os,h.tape,h.output,h.size,fun k hk _=>h.block k hk (Or.inl (yU hk hB))⟩
theorem qq {B:Nat}{l:List TypeId}{a b:World}(h:a.grownBy b none):Kept B l a b:=⟨h.os,h.tape,h.output,h.size,fun k hk _=>h.block k hk (by simp)⟩
theorem yj {B:Nat}{l:List TypeId}{a b:World}{g:Nat}{c:Array Value}{t:TypeId}{f:Nat×Nat}(h:a.grownBy b (some g))(hb:a.heap[g]?=some (.cells c t f))(ht:t∈l)(hB:B<=g):Kept B l a b:=
 ⟨h.os,h.tape,h.output,h.size,fun k hk hn=>h.block k hk (fun e=>by
  cases e
  rcases hn with hn | hn
  ·omega
  ·exact hn c t f hb ht)⟩
theorem zmM {l:List TypeId}{a b:World}{B g n aa:Nat}{e:TypeId}{s:Nat}{xs:List Value}(h:a.grownBy b (some g))(hr:a.ownsRow B e s (.slice (some ⟨g,0,none⟩) n aa) n xs)(ht:e∈l):Kept B l a b:=by
 obtain⟨c,hb⟩:=qH hr g rfl
 exact yj h hb ht (qh hr g rfl).1
theorem ze3 {α β:Type}{Q:List Value->β->Prop}(enc:β×α->List Value)(d:List (β×α))(h:∀x∈d,Q (enc x) x.1):All2 Q (d.map enc) (d.map Prod.fst):=by
 induction d with
 | nil=>exact .nil
 | cons x d ih=>exact .cons (h x (by simp)) (ih fun y hy=>h y (by simp[hy]))
theorem ze2 {α β:Type}{Q:List Value->β->Prop}(enc:α->List Value)(d:List α)(m:List β)(hl:m.length=d.length)(h:∀j (h1:j<d.length) (h2:j<m.length),Q (enc d[j]) m[j]):All2 Q (d.map enc) m:=by
 induction d generalizing m with
 | nil=>rw[List.length_eq_zero_iff.1 hl];exact .nil
 | cons x d ih=>
  match m,hl with
  | y :: m,hl=>
   exact .cons (h 0 (by simp) (by simp)) (ih m (by simpa using hl) fun j h1 h2=>h (j+1) (by simpa using h1) (by simpa using h2))
theorem zk5 {w:World}{aa:List (List Value)}{hs:List P.Hst}(h:All2 (PHostVal w) aa hs):∃d:List (P.Hst×Sl3),d.map encH=aa/\d.map Prod.fst=hs/\∀x∈d,PHostVal w (encH x) x.1:=by
 induction h with
 | nil=>exact⟨[],rfl,rfl,fun x hx=>by simp at hx⟩
 | @cons c r cs rs hc _ ih=>
  obtain⟨d,h1,h2,h3⟩:=ih
  obtain⟨vR,rfl,hr⟩:=hc
  obtain⟨aa,ab,_⟩:=id hr
  obtain⟨a,n,rfl⟩:=zP ab
  refine⟨(r,a,r.rules.length,n) :: d,by rw[xi,h1];rfl,by rw[xi,h2],fun x hx=>?_⟩
  rcases List.mem_cons.1 hx with rfl | hx
  ·exact⟨_,rfl,hr⟩
  ·exact h3 x hx
theorem zlS {w:World}{aa:List (List Value)}{rs:List P.Rl}(h:All2 (PRuleVal w) aa rs):∃d:List (P.Rl×Sl3×Sl3×Sl3×Sl3),d.map encR=aa/\d.map Prod.fst=rs/\∀x∈d,PRuleVal w (encR x) x.1:=by
 induction h with
 | nil=>exact⟨[],rfl,rfl,fun x hx=>by simp at hx⟩
 | @cons c r cs rs hc _ ih=>
  obtain⟨d,h1,h2,h3⟩:=ih
  obtain⟨vM,vT,vS,vD,rfl,q1,q2,q3,q4⟩:=hc
  obtain⟨a1,c1,rfl⟩:=zP q1
  obtain⟨a2,c2,rfl⟩:=zP q2
  obtain⟨a3,c3,rfl⟩:=zP q3
  obtain⟨a4,c4,rfl⟩:=zP q4
  refine⟨(r,(a1,r.ms.length,c1),(a2,r.tg.length,c2),(a3,r.sets.length,c3),(a4,r.drops.length,c4)) :: d,by rw[xi,h1];rfl,by rw[xi,h2],fun x hx=>?_⟩
  rcases List.mem_cons.1 hx with rfl | hx
  ·exact⟨_,_,_,_,rfl,q1,q2,q3,q4⟩
  ·exact h3 x hx
theorem PHostVal.away {w w':World}{cs:List Value}{h:P.Hst}{row:Option Nat}(hv:PHostVal w cs h)(hg:w.grownBy w' row)(hs:Safe w row pleaves)(hk:∀k,rblk cs=some k->row≠some k):PHostVal w' cs h:=by
 obtain⟨vR,rfl,aa,h1,h2⟩:=hv
 exact⟨vR,rfl,aa,zO h1 hg (fun k hb=>hk k hb),h2.map fun a b hab=>hab.keep hg hs⟩
def SrtR (a b:P.Hst):Prop:=b.name=a.name/\b.rules.Perm a.rules/\b.rules.Pairwise (fun x y=>Go.Sort.ltInt y.number x.number=false)
def SrtH (hs hs':List P.Hst):Prop:=∃p:List P.Hst,p.Perm hs/\p.Pairwise (fun x y=>Go.Sort.ltStr y.name x.name=false)/\hs'.length=p.length/\∀j (h1:j<p.length) (h2:j<hs'.length),SrtR p[j] hs'[j]
theorem ti {w:World}{v:Value}(B:Nat)(rs:List P.Rl)(h:PRulesRow w 0 v rs)(hn:rs.length<=12)(aa:∀k,v.ownBlock=some k->B<=k) :
  Calls Tryz.prog 153 #[v,.func (.func 154) #[] #[]] w fun e w'=>e = .returned (.tuple #[])/\w.grownBy w' v.ownBlock/\Safe w v.ownBlock pleaves/\Safe w v.ownBlock [146]/\Kept B [146,213] w w'/\∃rs',PRulesRow w' 0 v rs'/\rs'.Perm rs/\rs'.Pairwise (fun x y=>Go.Sort.ltInt y.number x.number=false):=by
 obtain⟨ab,h1,h2⟩:=h
 obtain⟨d,rfl,rfl,h3⟩:=zlS h2
 rw[qw] at h1 hn
 rcases h1.2 with ⟨rfl,h0⟩ | ⟨g,cap,cur,rfl,hB,hb,_⟩
 ·refine(tm w).mono ?_
  rintro e w' ⟨rfl,rfl⟩
  have:d=[]:=List.length_eq_zero_iff.1 h0
  subst this
  exact⟨rfl,zM _ _,zv _ _,zv _ _,Kept.refl _ _ _,[],⟨[],xS _ _ _ _,.nil⟩,List.Perm.refl _,.nil⟩
 ·have sf:Safe w (some g) pleaves:=qx hb (by decide)
  refine(zlD d h1 hn).mono ?_
  rintro e w' ⟨rfl,d',hp,hs,hg,ho⟩
  refine⟨rfl,hg,sf,qx hb (by decide),yj hg hb (by decide) (aa g rfl),d'.map Prod.fst,⟨d'.map encR,?_,?_⟩,hp.map _,?_⟩
  ·rw[qw,hp.length_eq];exact ho
  ·exact ze3 encR d' fun x hx=>(h3 x (hp.mem_iff.1 hx)).keep hg sf
  ·rw[List.pairwise_map];exact hs
theorem th {w:World}{B:Nat}{v:Value}(hs:List P.Hst)(h:PHosts w B v hs)(hn:hs.length<=12) :
  Calls Tryz.prog 150 #[v,.func (.func 151) #[] #[]] w fun e w'=>e = .returned (.tuple #[])/\Kept B [146,213] w w'/\∃d':List (P.Hst×Sl3),w'.ownsRow B 146 2 v d'.length (d'.map encH).flatten/\(∀x∈d',PHostVal w' (encH x) x.1)/\(d'.map encH).Pairwise (fun a b=>∀k,rblk a=some k->rblk b≠some k)/\(∀x∈d',∀k,rblk (encH x)=some k->B<=k)/\(d'.map Prod.fst).Perm hs/\(d'.map Prod.fst).Pairwise (fun x y=>Go.Sort.ltStr y.name x.name=false):=by
 obtain⟨ad,h1,h2,aa,ab⟩:=h
 obtain⟨d,rfl,rfl,h3⟩:=zk5 h2
 rw[qw] at h1 hn
 rcases h1.2 with ⟨rfl,h0⟩ | ⟨g,cap,cur,rfl,hB,hb,_⟩
 ·refine(tj w).mono ?_
  rintro e w' ⟨rfl,rfl⟩
  have:d=[]:=List.length_eq_zero_iff.1 h0
  subst this
  exact⟨rfl,Kept.refl _ _ _,[],xS _ _ _ _,fun x hx=>by simp at hx,.nil,fun x hx=>by simp at hx,List.Perm.refl _,.nil⟩
 ·have sf:Safe w (some g) prtags:=qx hb (by decide)
  refine(zlB d h1 hn).mono ?_
  rintro e w' ⟨rfl,d',hp,hs,hg,ho⟩
  refine⟨rfl,zmM hg h1 (by decide),d',by rw[hp.length_eq];exact ho,fun x hx=>(h3 x (hp.mem_iff.1 hx)).keep hg sf,?_,fun x hx=>ab _ (List.mem_map_of_mem (hp.mem_iff.1 hx)),hp.map _,?_⟩
  ·exact(hp.map encH).symm.pairwise aa (fun {a b} hab k hb ha=>hab k ha hb)
  ·rw[List.pairwise_map];exact hs
theorem zfK {w:World}{B:Nat}{v:Value}(hs:List P.Hst)(h:PHosts w B v hs)(hn:hs.length<=12)(hr:∀h∈hs,h.rules.length<=12) :
  Calls Tryz.prog 103 #[v] w fun e w'=>e = .returned (.agg #[v])/\Kept B [146,213] w w'/\∃hs',PHostsRow w' B v hs'/\SrtH hs hs':=by
 have HP:Y (PHosts (w.alloc (.cells #[.slice none 0 0] 88)) B v hs):=h.keep (zJ _ _ none) (zv _ _)
 obtain⟨va,vc,rfl⟩:=h.len
 have ag:Y ((w.alloc (.cells #[.slice none 0 0] 88)).heap[w.heap.size]?=some (.cells #[.slice none 0 0] 88)):=heap_alloc_new _ _
 have ao:Y (Kept B [146,213] w (w.alloc (.cells #[.slice none 0 0] 88))):=qq (zJ _ _ none)
 clear h
 go_enter Tryz.func103,Tryz.ntmps103
 go_wp2_with (go_at_call 150;refine(th hs HP.o hn).mono ?_;rintro e w1 ⟨rfl,am,d',ho,hv,ap,ar,ai,af⟩)
 have aH:Y _:=ao.o.trans am
 have aF:Y (w1.heap[w.heap.size]?=some (.cells #[.slice none 0 0] 88)):=by
  show w1.heap[w.heap.size]?=_
  rw[am.block w.heap.size (zE ag.o) (Or.inr fun c t f hb=>by rw[ag.o] at hb;cases hb;decide)];exact ag.o
 have al:d'.length=hs.length:=by have:=ai.length_eq;simpa using this
 have aI:Y (w1.ownsRow B 146 2 (.slice va hs.length vc) hs.length (d'.map encH).flatten):=by have h:=ho;rw[al] at h;exact h
 have aM:Y _:=hv
 have aE:Y _:=ap
 have aG:Y (∀x∈d',∀k,rblk (encH x)=some k->B<=k):=ar
 have aJ:Y _:=ai
 have aK:Y _:=af
 have aL:Y (∀x∈d',x.1.rules.length<=12):=fun x hx=>hr x.1 (ai.mem_iff.1 (List.mem_map_of_mem hx))
 clear am ho hv ap ar ai af hr HP ag ao
 go_wp2
 go_loopw [9] (fun iv wr=>∃(i:Nat) (hq:List P.Hst),i<=hs.length/\iv = .int .i64 i/\hq.length=d'.length/\Y (wr.ownsRow B 146 2 (.slice va hs.length vc) hs.length (d'.map encH).flatten)/\Y (∀j (h1:j<d'.length) (h2:j<hq.length),PHostVal wr (encH d'[j]) hq[j])/\Y (∀j (h1:j<d'.length) (h2:j<hq.length),j<i->SrtR d'[j].1 hq[j])/\Y (∀j (h1:j<d'.length) (h2:j<hq.length),i<=j->hq[j]=d'[j].1)/\Y (Kept B [146,213] w wr)/\Y (wr.heap[w.heap.size]?=some (.cells #[.slice none 0 0] 88))) (fun iv _=>hs.length - (intOf iv).toNat)
 case atStart=>exact⟨0,d'.map Prod.fst,zl _,rfl,by simp,aI,fun j h1 h2=>by rw[List.getElem_map];exact aM.o _ (List.getElem_mem _),fun j _ _ hj=>absurd hj (by omega),fun j h1 h2 _=>by rw[List.getElem_map],aH,aF⟩
 case round=>
  obtain⟨i,hq,aW,rfl,aj,HO,HV,HS,HD,HK,HB⟩:=hrel
  by_cases aX:i<hs.length
  ·have ab:i<d'.length:=by omega
   have aw:i<hq.length:=by omega
   have aV:(i:Int)<hs.length:=by omega
   obtain⟨g,gc,av,_,aU⟩:=World.ownsRow.form HO.o (by omega)
   simp only[qc] at av
   obtain⟨rfl,_,rfl⟩:=av
   have aD:=HV.o i ab aw
   have ay:=HD.o i ab aw (zZ _)
   have az:=aL.o d'[i] (List.getElem_mem ab)
   rw[ay] at aD
   have e0:wr.cell? ⟨g,i*2,none⟩=some (.string (R.str d'[i].1.name)):=by
    rw[xd HO.o (i*2) (by omega),kC encH 2 (fun _=>rfl) d' (i*2) (by omega),Nat.mul_div_cancel _ (by decide),getElem!_pos d' i ab,Nat.mul_mod_left];rfl
   have e1:wr.cell? ⟨g,i*2+1,none⟩=some (.slice d'[i].2.1 d'[i].2.2.1 d'[i].2.2.2):=by
    rw[xd HO.o (i*2+1) (by omega),kC encH 2 (fun _=>rfl) d' (i*2+1) (by omega),show(i*2+1) / 2=i by omega,getElem!_pos d' i ab,show(i*2+1) % 2=1 by omega];rfl
   obtain⟨vR,aC,aB⟩:=aD
   have aQ:vR = .slice d'[i].2.1 d'[i].2.2.1 d'[i].2.2.2:=by
    have h1:=congrArg (fun l=>l[1]?) aC
    simp[encH] at h1
    exact h1.symm
   subst aQ
   have ad:=zJ wr (.cells #[.string (R.str d'[i].1.name),.slice d'[i].2.1 d'[i].2.2.1 d'[i].2.2.2] 146) none
   have an:Y (Calls Tryz.prog 153 #[.slice d'[i].2.1 d'[i].2.2.1 d'[i].2.2.2,.func (.func 154) #[] #[]] (wr.alloc (.cells #[.string (R.str d'[i].1.name),.slice d'[i].2.1 d'[i].2.2.1 d'[i].2.2.2] 146)) fun e w'=>e = .returned (.tuple #[])/\∃aa:List P.Hst,aa.length=d'.length/\(w'.ownsRow B 146 2 (.slice (some ⟨g,0,none⟩) hs.length vc) hs.length (d'.map encH).flatten)/\(∀j (h1:j<d'.length) (h2:j<aa.length),PHostVal w' (encH d'[j]) aa[j])/\(∀j (h1:j<d'.length) (h2:j<aa.length),j<i+1->SrtR d'[j].1 aa[j])/\(∀j (h1:j<d'.length) (h2:j<aa.length),i+1<=j->aa[j]=d'[j].1)/\(Kept B [146,213] w w')/\(w'.heap[w.heap.size]?=some (.cells #[.slice none 0 0] 88))):=by
    refine(ti B d'[i].1.rules (aB.keep ad (zv _ _)) az (fun k hk=>aG.o d'[i] (List.getElem_mem ab) k hk)).mono ?_
    rintro e w2 ⟨rfl,au,aS,aT,ax,aR,aN,aO,aP⟩
    refine⟨rfl,hq.set i ⟨d'[i].1.name,aR⟩,by simpa using aj,xE (zO HO.o ad (fun k hk c=>by cases c)) au aT (by decide),?_,?_,?_,(HK.o.trans (qq ad)).trans ax,?_⟩
    ·intro j h1 h2
     rw[List.getElem_set]
     by_cases ae:i=j
     ·subst ae
      rw[if_pos rfl]
      exact⟨_,rfl,aN⟩
     ·rw[if_neg ae]
      refine((HV.o j h1 (by simpa using h2)).keep ad (zv _ _)).away au aS ?_
      intro k hk aA
      have af:=List.pairwise_iff_getElem.1 aE.o
      rcases Nat.lt_or_gt_of_ne ae with hl | hl
      ·have:=af i j (by simpa using ab) (by simpa using h1) hl k
       rw[List.getElem_map,List.getElem_map] at this
       exact this aA hk
      ·have:=af j i (by simpa using h1) (by simpa using ab) hl k
       rw[List.getElem_map,List.getElem_map] at this
       exact this hk aA
    ·intro j h1 h2 hj
     rw[List.getElem_set]
     by_cases ae:i=j
     ·subst ae
      rw[if_pos rfl]
      exact⟨rfl,aO,aP⟩
     ·rw[if_neg ae]
      exact HS.o j h1 (by simpa using h2) (by omega)
    ·intro j h1 h2 hj
     rw[List.getElem_set,if_neg (by omega)]
     exact HD.o j h1 (by simpa using h2) (by omega)
    ·have ak:(wr.alloc (.cells #[.string (R.str d'[i].1.name),.slice d'[i].2.1 d'[i].2.2.1 d'[i].2.2.2] 146)).heap[w.heap.size]?=some (.cells #[.slice none 0 0] 88):=zB HB.o ad (by simp)
     rw[ax.block w.heap.size (zE ak) (Or.inr fun c t f hb=>by rw[ak] at hb;cases hb;decide)]
     exact ak
   clear aC aB ad ay az
   obtain⟨di,aq⟩:∃x,x=d'[i]:=⟨_,rfl⟩
   rw[<-aq] at e0 e1 an
   clear aq
   clear HV HS HD HO HK HB
   go_wp2_with (go_at_call 153;refine an.o.mono ?_;rintro e w2 ⟨rfl,aa,q1,q2,q3,q4,q5,q6,q7⟩)
   go_roundw
   case rel=>exact⟨i+1,aa,by omega,by go_num,q1,q2,q3,q4,q5,q6,q7⟩
   case measure=>simp[intOf];omega
  ·have c0:wr.cell? ⟨w.heap.size,0,none⟩=some (.slice none 0 0):=z8 HB.o
   have f0:=zrB 0 HB.o
   have HE:Y (i=hs.length):=by show i=hs.length;omega
   go_wp2
   have ah:=zD wr w.heap.size 0 (.slice va hs.length vc)
   have sf:Safe wr (some w.heap.size) phtags:=qx HB.o (by decide)
   refine bodyPost_ret (v:=.agg #[.slice va hs.length vc]) (by simp[results,Tryz.results103,go_sem,c0]) rfl ⟨rfl,?_,hq,?_,d'.map Prod.fst,aJ.o,aK.o,by simpa using aj,?_⟩
   ·refine⟨HK.o.os,HK.o.tape,HK.o.output,zp HK.o.size ah.size,fun k hk ht=>?_⟩
    rw[ah.block k (yU hk HK.o.size) (fun e=>by cases e;omega)]
    exact HK.o.block k hk ht
   ·refine⟨d'.map encH,?_,ze2 encH d' hq aj fun j h1 h2=>(HV.o j h1 h2).keep ah (jM sf)⟩
    rw[aj,al];exact xE HO.o ah sf (by decide)
   ·intro j h1 h2
    rw[List.getElem_map]
    have h3:j<d'.length:=by simpa using h1
    exact HS.o j h3 h2 (by rw[HE.o,<-al];exact h3)
theorem zkZ {w:World}{rb:Nat}{s:ByteArray}(aa:w.heap[rb]?=some (.cells #[.string s,.int .i64 0,.int .i64 0,.string ⟨#[]⟩,.bool false,.int .i64 0,.int .i64 0] 204 (0,0)))(ab:s.size<=1000000000000) :
  Calls Tryz.prog 100 #[.pointer (some ⟨rb,0,none⟩),.int .i64 0] w fun e w'=>e = .returned (.tuple #[])/\PInv w' rb s (j5 s.data.toList)/\w.grownBy w' (some rb):=by
 have c0:w.cell? ⟨rb,0,none⟩=some (.string s):=z8 aa
 have H0:Y _:=aa
 have HT:Y _:=fun w=>kQ s 0 w ab (zl _)
 have HE:Y (j5 s.data.toList=⟨zU s.data.toList 0,false,0,0⟩):=rfl
 have ad:Y (∃q,q<=s.size/\zU s.data.toList 0=zU s.data.toList q):=⟨0,zl _,rfl⟩
 generalize zU s.data.toList 0=t at*
 clear aa
 go_enter Tryz.func100,Tryz.ntmps100
 go_wp2_with fail
 refine(HT.o _).mono ?_
 rintro e w1 ⟨rfl,hg⟩
 have I1:=zB H0.o hg (by simp)
 have c1:w1.cell? ⟨rb,1,none⟩=some (.int .i64 0):=z8 I1
 have c2:w1.cell? ⟨rb,2,none⟩=some (.int .i64 0):=z8 I1
 have c3:w1.cell? ⟨rb,3,none⟩=some (.string ⟨#[]⟩):=z8 I1
 have f1:=zrB 1 I1
 have f2:=zrB 2 I1
 have f3:=zrB 3 I1
 have J1:Y _:=I1
 have HG:Y _:=hg
 clear I1 hg c0
 go_wp2
 go_end0
 have hg:w1.grownBy (((w1.setCell ⟨rb,1,none⟩ (.int .i64 t.k)).setCell ⟨rb,2,none⟩ (.int .i64 t.at_)).setCell ⟨rb,3,none⟩ (.string (R.str t.raw))) (some rb):=
  zA (zA (zD _ _ _ _) (zD _ _ _ _)) (zD _ _ _ _)
 refine⟨rfl,?_,zA (zk HG.o _) hg⟩
 rw[HE.o]
 exact⟨zF (zF (zF J1.o _) _) _,ab,ad.o⟩
def xT (p:P.St):Int×Int:=if p.broken then (2,p.tok.at_) else if p.err≠0 then (p.err,p.fat) else (0,0)
theorem zfC (s:ByteArray)(w:World)(aZ:s.size<=1000000000000)(hG:Glob w)
  (aq:(ze s.data.toList).2.broken=false->(ze s.data.toList).2.err=0->(ze s.data.toList).1.length<=12/\∀h∈(ze s.data.toList).1,h.rules.length<=12) :
  Calls Tryz.prog 67 #[.string s] w fun e w'=>∃v,e = .returned (.tuple #[.agg #[v],.int .i64 (xT (ze s.data.toList).2).1,.int .i64 (xT (ze s.data.toList).2).2])/\w.grownBy w' none/\
   ((ze s.data.toList).2.broken=false->(ze s.data.toList).2.err=0->∃ab,PHostsRow w' 0 v ab/\SrtH (ze s.data.toList).1 ab)/\∃a n c,v = .slice a n c:=by
 have HR:Y (ze s.data.toList=((qG s.data.toList (s.data.toList.length+1) (j5 s.data.toList) []).1,yY s.data.toList (qG s.data.toList (s.data.toList.length+1) (j5 s.data.toList) []).2)):=rfl
 have HL:Y _:=fun w rb h=>zkZ (w:=w) (rb:=rb) (s:=s) h aZ
 have HH:Y _:=fun w rb (h:PInv w rb s (j5 s.data.toList)) (hG:Glob w) (hrb:rb≠0)=>zkS h hG hrb
 have aw:Y (∀w rb,PInv w rb s (qG s.data.toList (s.data.toList.length+1) (j5 s.data.toList) []).2->Calls Tryz.prog 102 #[.pointer (some ⟨rb,0,none⟩)] w fun e w'=>e = .returned (.tuple #[])/\PInv w' rb s (yY s.data.toList (qG s.data.toList (s.data.toList.length+1) (j5 s.data.toList) []).2)/\w.grownBy w' (some rb)):=fun w rb h=>zfU h
 generalize ze s.data.toList=rd at*
 generalize j5 s.data.toList=st0 at*
 generalize qG s.data.toList (s.data.toList.length+1) st0 []=q at*
 generalize yY s.data.toList q.2=pe at*
 obtain⟨hs,qs⟩:=q
 have HQ:Y (rd=(hs,pe)):=HR.o
 clear HR
 have aO:pe.broken=false->pe.err=0->hs.length<=12/\∀h∈hs,h.rules.length<=12:=by rw[HQ.o] at aq;exact aq
 clear aq
 have az:Y (Glob w):=hG
 clear hG
 rw[HQ.o]
 simp only
 clear HQ
 have aE:Y _:=aO
 clear aO
 have aI:w.grownBy ((w.alloc (.cells #[.slice none 0 0] 88)).alloc (.cells #[.string s,.int .i64 0,.int .i64 0,.string ⟨#[]⟩,.bool false,.int .i64 0,.int .i64 0] 204)) none:=zA (zJ _ _ _) (zJ _ _ _)
 have ax:Y _:=aI
 have aD:Y (((w.alloc (.cells #[.slice none 0 0] 88)).alloc (.cells #[.string s,.int .i64 0,.int .i64 0,.string ⟨#[]⟩,.bool false,.int .i64 0,.int .i64 0] 204)).heap[w.heap.size+1]?=some (.cells #[.string s,.int .i64 0,.int .i64 0,.string ⟨#[]⟩,.bool false,.int .i64 0,.int .i64 0] 204)):=by
  have:=heap_alloc_new (w.alloc (.cells #[.slice none 0 0] 88)) (.cells #[.string s,.int .i64 0,.int .i64 0,.string ⟨#[]⟩,.bool false,.int .i64 0,.int .i64 0] 204)
  rw[show(w.alloc (.cells #[.slice none 0 0] 88)).heap.size=w.heap.size+1 by simp] at this
  exact this
 have av:Y (((w.alloc (.cells #[.slice none 0 0] 88)).alloc (.cells #[.string s,.int .i64 0,.int .i64 0,.string ⟨#[]⟩,.bool false,.int .i64 0,.int .i64 0] 204)).heap[w.heap.size]?=some (.cells #[.slice none 0 0] 88)):=zB (heap_alloc_new w (.cells #[.slice none 0 0] 88)) (zJ _ _ none) (by simp)
 clear aI
 go_enter Tryz.func67,Tryz.ntmps67
 go_wp2_with fail
 refine(HL.o _ _ aD.o).mono ?_
 rintro e w1 ⟨rfl,aF,an⟩
 have aB:Y _:=aF
 have ae:=J (zY ax.o an (by omega))
 have aW:Y (w.heap.size<=w1.heap.size):=ae.o.size
 have ar:=J (zB av.o an (by simp))
 have aA:Y (Glob w1):=az.o.keep ae.o (by simp)
 clear aF an ax av aD az
 go_wp2_with fail
 refine(HH.o _ _ aB.o aA.o (by omega)).mono ?_
 rintro e w2 ⟨v,rfl,aG,ao,al⟩
 obtain⟨va,vc,rfl⟩:=PHosts.len al
 have ak:Y (PInv w2 (w.heap.size+1) s qs):=aG
 have aC:Y (PHosts w2 w1.heap.size (.slice va hs.length vc) hs):=al
 have ay:=J (zY ae.o ao (by omega))
 have au:=J (zB ar.o ao (by simp))
 clear aG ao al aB ae ar aA
 go_wp2_with fail
 refine(aw.o _ _ ak.o).mono ?_
 rintro e w3 ⟨rfl,aH,ah⟩
 have af:Y (PInv w3 (w.heap.size+1) s pe):=aH
 have aT:Y (PHosts w3 w1.heap.size (.slice va hs.length vc) hs):=PHosts.keep aC.o ah (ak.o.safe (by decide))
 have aj:=J (zY ay.o ah (by omega))
 have ad:=J (zB au.o ah (by simp))
 have c2:w3.cell? ⟨w.heap.size+1,2,none⟩=some (.int .i64 pe.tok.at_):=z8 af.o.rd
 have c4:w3.cell? ⟨w.heap.size+1,4,none⟩=some (.bool pe.broken):=z8 af.o.rd
 have c5:w3.cell? ⟨w.heap.size+1,5,none⟩=some (.int .i64 pe.err):=z8 af.o.rd
 have c6:w3.cell? ⟨w.heap.size+1,6,none⟩=some (.int .i64 pe.fat):=z8 af.o.rd
 have b0:=zqV ad.o
 have f0:=zrB 0 ad.o
 clear aH ah ak ay au aC HL HH aw
 by_cases ag:pe.broken=true
 ·have HE:Y (xT pe=(2,(pe.tok.at_:Int))):=by show xT pe=_;unfold xT;rw[if_pos ag]
  go_wp2
  go_region
  all_goals
   go_wp2
   refine bodyPost_ret (v:=.tuple #[.agg #[.slice none 0 0],.int .i64 2,.int .i64 pe.tok.at_]) (by simp[results,Tryz.results67,go_sem,b0]) rfl ⟨_,by rw[HE.o],zA (zY aj.o (zD w3 w.heap.size 0 (.slice none 0 0)) (zZ _)) (zQ _),fun h=>absurd h (by rw[ag];decide),_,_,_,rfl⟩
 ·have am:pe.broken=false:=by simpa using ag
  clear ag
  by_cases aa:pe.err=0
  ·have HE:Y (xT pe=(0,0)):=by show xT pe=_;unfold xT;rw[if_neg (by rw[am];simp),if_neg (by simpa using aa)]
   obtain⟨aK,aL⟩:=aE.o am aa
   have aY:(pe.err != 0)=false:=by rw[aa];rfl
   have aQ:Y _:=aK
   have aR:Y _:=aL
   clear aE aa aK aL
   go_wp2_with fail
   refine(zfK hs aT.o aQ.o aR.o).mono ?_
   rintro e w4 ⟨rfl,ap,ab,aM,aN⟩
   have aP:Y (w.grownBy w4 none):=((qq aj.o).trans (ap.floor aW.o)).grown (zZ _)
   have aU:Y (PHostsRow w4 w1.heap.size (.slice va hs.length vc) ab):=aM
   have aV:Y (SrtH hs ab):=aN
   have ai:Y (w4.heap[w.heap.size]?=some (.cells #[.slice none 0 0] 88)):=by
    show w4.heap[w.heap.size]?=_
    rw[ap.block w.heap.size (zE ad.o) (Or.inr fun c t f hb=>by rw[ad.o] at hb;cases hb;decide)];exact ad.o
   have b4:=zqV ai.o
   have f4:=zrB 0 ai.o
   clear ap aM aN b0 f0 c2 c4 c5 c6
   go_wp2
   have aJ:=zD w4 w.heap.size 0 (.slice va hs.length vc)
   refine bodyPost_ret (v:=.tuple #[.agg #[.slice va hs.length vc],.int .i64 0,.int .i64 0]) (by simp[results,Tryz.results67,go_sem,b4]) rfl ⟨_,by rw[HE.o],zY aP.o aJ (zZ _),fun _ _=>⟨ab,?_,aV.o⟩,_,_,_,rfl⟩
   obtain⟨aX,r1,r2⟩:=aU.o
   exact PHostsRow.keep ⟨aX,qK r1 (zl _),r2⟩ aJ (qx ai.o (by decide))
  ·have HE:Y (xT pe=(pe.err,pe.fat)):=by show xT pe=_;unfold xT;rw[if_neg (by rw[am];simp),if_pos aa]
   have aY:(pe.err != 0)=true:=by rw[bne_iff_ne];exact aa
   have aS:Y (pe.err≠0):=aa
   clear aa
   go_wp2
   go_region
   all_goals
    go_wp2
    refine bodyPost_ret (v:=.tuple #[.agg #[.slice none 0 0],.int .i64 pe.err,.int .i64 pe.fat]) (by simp[results,Tryz.results67,go_sem,b0]) rfl ⟨_,by rw[HE.o],zA (zY aj.o (zD w3 w.heap.size 0 (.slice none 0 0)) (zZ _)) (zQ _),fun _ h=>absurd h aS.o,_,_,_,rfl⟩
def qd (l:List UInt8):Int×Int:=if 3000<l.length then (1,0) else xT (ze l).2
theorem jp {p:P.St}(h:(xT p).1=0):p.broken=false/\p.err=0:=by
 unfold xT at h
 by_cases hb:p.broken=true
 ·rw[if_pos hb] at h;exact absurd h (by show ¬(2:Int)=0;decide)
 ·rw[if_neg hb] at h
  by_cases he:p.err≠0
  ·rw[if_pos he] at h;exact absurd h he
  ·exact⟨by simpa using hb,by simpa using he⟩
theorem zfQ (s:ByteArray)(w:World)(ao:s.size<=maxLen)(hG:Glob w)
  (ae:s.size<=3000->(ze s.data.toList).2.broken=false->(ze s.data.toList).2.err=0->(ze s.data.toList).1.length<=12/\∀h∈(ze s.data.toList).1,h.rules.length<=12) :
  Calls Tryz.prog 41 #[.string s] w fun e w'=>∃v,e = .returned (.tuple #[.agg #[v],.int .i64 (qd s.data.toList).1,.int .i64 (qd s.data.toList).2])/\w.grownBy w' none/\
   ((qd s.data.toList).1=0->∃aa,PHostsRow w' 0 v aa/\SrtH (ze s.data.toList).1 aa)/\∃a n c,v = .slice a n c:=by
 unfold maxLen at ao
 have af:Y ((w.alloc (.cells #[.slice none 0 0] 88)).heap[w.heap.size]?=some (.cells #[.slice none 0 0] 88)):=heap_alloc_new _ _
 have ag:Y (w.grownBy (w.alloc (.cells #[.slice none 0 0] 88)) none):=zJ _ _ none
 by_cases ai:3000<s.size
 ·have HE:Y (qd s.data.toList=(1,0)):=by show qd _=_;unfold qd;rw[if_pos (by rw[R.size_eq];exact ai)]
  generalize qd s.data.toList=er at*
  have b0:=zqV af.o
  clear ae
  go_enter Tryz.func41,Tryz.ntmps41
  go_wp2
  refine bodyPost_ret (v:=.tuple #[.agg #[.slice none 0 0],.int .i64 1,.int .i64 0]) (by simp[results,Tryz.results41,go_sem,b0]) rfl ⟨_,by rw[HE.o],ag.o,fun h=>absurd h (by rw[HE.o];decide),_,_,_,rfl⟩
 ·have ap:s.size<=3000:=by omega
  have HE:Y (qd s.data.toList=xT (ze s.data.toList).2):=by show qd _=_;unfold qd;rw[if_neg (by rw[R.size_eq];exact ai)]
  have an:Y (∀w,Glob w->Calls Tryz.prog 67 #[.string s] w fun e w'=>∃v,e = .returned (.tuple #[.agg #[v],.int .i64 (qd s.data.toList).1,.int .i64 (qd s.data.toList).2])/\w.grownBy w' none/\
   ((qd s.data.toList).1=0->∃aa,PHostsRow w' 0 v aa/\SrtH (ze s.data.toList).1 aa)/\∃a n c,v = .slice a n c):=fun w hG=>by
    rw[HE.o]
    exact(zfC s w (by omega) hG (ae ap)).mono fun e w' ⟨v,h1,h2,h3,h4⟩=>⟨v,h1,h2,fun h=>h3 (jp h).1 (jp h).2,h4⟩
  generalize qd s.data.toList=er at*
  generalize ze s.data.toList=rd at*
  have ak:Y (Glob (w.alloc (.cells #[.slice none 0 0] 88))):=hG.keep (zJ _ _ none) (by simp)
  clear ae hG
  go_enter Tryz.func41,Tryz.ntmps41
  go_wp2_with fail
  refine(an.o _ ak.o).mono ?_
  rintro e w1 ⟨v,rfl,ad,aj,va,vn,vc,rfl⟩
  have al:Y _:=zA ag.o ad
  have am:Y _:=aj
  have ab:=J (zB af.o ad (by simp))
  have b1:=zqV ab.o
  have f1:=zrB 0 ab.o
  clear ad aj
  go_wp2
  have ah:=zD w1 w.heap.size 0 (.slice va vn vc)
  refine bodyPost_ret (v:=.tuple #[.agg #[.slice va vn vc],.int .i64 er.1,.int .i64 er.2]) (by simp[results,Tryz.results41,go_sem,b1]) rfl ⟨_,rfl,zY al.o ah (zZ _),fun h=>?_,_,_,_,rfl⟩
  obtain⟨aa,h1,h2⟩:=am.o h
  exact⟨aa,PHostsRow.keep h1 ah (qx ab.o (by decide)),h2⟩
def wtags:List TypeId:=[143,5]
structure WAt (w:World) (wb:Nat) (p:Value) (l:List UInt8) (op:Int):Prop where
 ex:∃v,w.heap[wb]?=some (.cells #[p,v,.int .i64 op] 143 (0,0))/\w.ownsRow (wb+1) 5 1 v l.length (Lib.byteCells l)
def WInv (w:World)(wb:Nat)(l:List UInt8)(op:Int):Prop:=WAt w wb (.pointer none) l op\/WAt w wb (.pointer (some ⟨wb,0,none⟩)) l op
theorem za0:(Tryz.prog.info? 141).map (·.size)=some 2:=by kernel_rfl
theorem ja:(Tryz.prog.info? 5).map (fun i=>(i.zero,i.size,i.bytes))=some (some (.int .u8 0),1,1):=by kernel_rfl
theorem zoI:liesAt Tryz.prog (Tryz.prog).depth 143 (3 / (Tryz.prog).cellsOf 143) 0 141 1=true:=by kernel_rfl
theorem zi0 (b:Nat)(w:World)(c:Array Value)(hb:w.heap[b]?=some (.cells c 143 (0,0)))(hc:c.size=3)(h0:c[0]?=some (.pointer none)) :
  Calls Tryz.prog 214 #[.pointer (some ⟨b,0,none⟩)] w fun e w'=>e = .returned (.tuple #[])/\w'=w.setCell ⟨b,0,none⟩ (.pointer (some ⟨b,0,none⟩)):=by
 obtain⟨j,hj,ab⟩:=Option.map_eq_some_iff.1 za0
 have c0:w.cell? ⟨b,0,none⟩=some (.pointer none):=by rw[Lib.cell_of_heap hb];exact h0
 have f0:=zrB 0 hb
 have aa:w.shape? b=some (143,3):=by simp[World.shape?,hb,hc]
 go_enter Tryz.func214,Tryz.ntmps214
 go_wp2
 rw[Lib.run_to_unsafe w ⟨b,0,none⟩ Tryz.underlying139 Tryz.underlying386 hj (by rw[ab];decide) aa (Nat.zero_lt_succ 2)]
 simp only[Result.andThen]
 rw[Oper.upon_value]
 go_wp2
 rw[run_callFunc_extern Tryz.func294 (by kernel_rfl) (by kernel_rfl) (by kernel_rfl) (e:=Extern.AbiNoEscape.same) (by kernel_rfl)]
 rw[Lib.run_noEscape]
 simp only[Result.andThen]
 rw[Oper.upon_value]
 go_wp2
 rw[Lib.run_from_unsafe w ⟨b,0,none⟩ Tryz.underlying386 Tryz.underlying139 hj aa zoI]
 simp only[Result.andThen]
 rw[Oper.upon_value]
 go_wp2
 go_end0
 exact⟨rfl,rfl⟩
theorem zi1 (b:Nat)(w:World)(h0:w.cell? ⟨b,0,none⟩=some (.pointer (some ⟨b,0,none⟩))) :
  Calls Tryz.prog 214 #[.pointer (some ⟨b,0,none⟩)] w fun e w'=>e = .returned (.tuple #[])/\w'=w:=by
 obtain⟨j,hj,aa⟩:=Option.map_eq_some_iff.1 za0
 go_enter Tryz.func214,Tryz.ntmps214
 go_wp2
 rw[Lib.run_neq_ptr_same w _ Tryz.underlying139 hj]
 go_wp2
 go_end0
 exact⟨rfl,rfl⟩
theorem zaM {w:World}{wb:Nat}{l:List UInt8}{op:Int}(h:WInv w wb l op) :
  Calls Tryz.prog 214 #[.pointer (some ⟨wb,0,none⟩)] w fun e w'=>e = .returned (.tuple #[])/\WAt w' wb (.pointer (some ⟨wb,0,none⟩)) l op/\Kept wb wtags w w':=by
 rcases h with ⟨v,hb,ho⟩ | h
 ·refine(zi0 wb w _ hb rfl rfl).mono ?_
  rintro e w' ⟨rfl,rfl⟩
  have hg:=zD w wb 0 (.pointer (some ⟨wb,0,none⟩))
  exact⟨rfl,⟨v,zF hb _,zO ho hg (fun k hk e=>by have:=(qh ho k hk).1;cases e;omega)⟩,yj hg hb (by decide) (zZ _)⟩
 ·obtain⟨v,hb,ho⟩:=id h
  refine(zi1 wb w (z8 hb)).mono ?_
  rintro e w' ⟨rfl,rfl⟩
  exact⟨rfl,h,Kept.refl _ _ _⟩
theorem zg4 {w:World}{wb:Nat}{l:List UInt8}{op:Int}(h:WInv w wb l op)(s:ByteArray)(hl:l.length+s.size<=140737488355328) :
  Calls Tryz.prog 156 #[.pointer (some ⟨wb,0,none⟩),.string s] w fun e w'=>e = .returned (.tuple #[.int .i64 s.size,.nilIface])/\WInv w' wb (l++s.data.toList) op/\Kept wb wtags w w':=by
 obtain⟨i0,hi,aj,ak,al⟩:=info_parts ja
 have HC:Y (Calls Tryz.prog 214 #[.pointer (some ⟨wb,0,none⟩)] w fun e w'=>e = .returned (.tuple #[])/\WAt w' wb (.pointer (some ⟨wb,0,none⟩)) l op/\Kept wb wtags w w'):=zaM h
 clear h
 go_enter Tryz.func156,Tryz.ntmps156
 go_wp2_with fail
 refine HC.o.mono ?_
 rintro e w1 ⟨rfl,⟨v,hb,ho⟩,hk⟩
 have HB:Y _:=hb
 have HO:Y (w1.ownsRow (wb+1) 5 1 v l.length (Lib.byteCells l)):=ho
 have HK:Y _:=hk
 have c1:w1.cell? ⟨wb,1,none⟩=some v:=z8 hb
 have am:=zE hb
 clear hb ho hk HC
 go_wp2_with (at_builtin;refine Lib.wpList_append_own_string _ rfl _ _ 32 9 rfl (wb+1) 5 i0 Tryz.underlying32 Tryz.underlying9 hi aj ak al _ _ _ rfl HO.o s rfl ?c3 ?c4 ?c5 ?_)
 case c3=>unfold maxLen;omega
 case c4=>omega
 case c5=>omega
 intro v' w2 ad aa _
 obtain⟨va,vc,rfl⟩:=zP ad
 have ab:w2.heap[wb]?=some (.cells #[.pointer (some ⟨wb,0,none⟩),v,.int .i64 op] 143 (0,0)):=zB HB.o aa (fun e=>by have:=(qh HO.o wb e.symm).1;omega)
 have ae:Y _:=ab
 have ag:Kept wb wtags w1 w2:=by
  cases hv:v.ownBlock with
  | none=>rw[hv] at aa;exact qq aa
  | some g=>
   rw[hv] at aa
   obtain⟨c,hc⟩:=qH HO.o g hv
   exact yj aa hc (by decide) (by have:=(qh HO.o g hv).1;omega)
 have ah:Y _:=HK.o.trans ag
 have af:Y _:=ad
 have d1:=zqZ ab
 have f1:=zrB 1 ab
 clear ab ag ad aa
 go_wp2
 go_ret2
 have hg:=zD w2 wb 1 (.slice va (l.length+s.size) vc)
 refine⟨rfl,Or.inr ⟨_,zF ae.o _,?_⟩,ah.o.trans (yj hg ae.o (by decide) (zZ _))⟩
 have ai:=zO af.o hg (fun k hk e=>by have:=(qh af.o k hk).1;cases e;omega)
 rw[zW,R.size_eq,Lib.byteCells_append]
 exact ai
theorem zlL {w:World}{wb:Nat}{l:List UInt8}{op:Int}(h:WInv w wb l op)(c:UInt8)(hl:l.length+1<=140737488355328) :
  Calls Tryz.prog 158 #[.pointer (some ⟨wb,0,none⟩),.int .u8 c.toNat] w fun e w'=>e = .returned .nilIface/\WInv w' wb (l++[c]) op/\Kept wb wtags w w':=by
 obtain⟨i0,hi,al,am,an⟩:=info_parts ja
 have HC:Y (Calls Tryz.prog 214 #[.pointer (some ⟨wb,0,none⟩)] w fun e w'=>e = .returned (.tuple #[])/\WAt w' wb (.pointer (some ⟨wb,0,none⟩)) l op/\Kept wb wtags w w'):=zaM h
 clear h
 go_enter Tryz.func158,Tryz.ntmps158
 go_wp2_with fail
 refine HC.o.mono ?_
 rintro e w1 ⟨rfl,⟨v,hb,ho⟩,hk⟩
 have HB:Y _:=hb
 have HO:Y (w1.ownsRow (wb+1) 5 1 v l.length (Lib.byteCells l)):=ho
 have HK:Y _:=hk
 have c1:w1.cell? ⟨wb,1,none⟩=some v:=z8 hb
 have ao:=zE hb
 clear hb ho hk HC
 go_wp2_with (at_builtin;refine wpList_append_own _ rfl _ _ 32 rfl (wb+1) 5 i0 _ 1 1 Tryz.underlying32 hi al am an rfl (by decide) _ _ _ rfl (xX HO.o _) ⟨w1.heap.size,0,none⟩ 1 1 [.int .u8 c.toNat] rfl ?a1 ?a2 ?a3 ?a4 ?a5 ?a6 ?_)
 case a1=>rfl
 case a2=>
  intro j u hj
  match j,hj with
  | 0,hj=>simp at hj;subst hj;simp[Addr.add]
 case a3=>intro u hu;simp at hu;subst hu;rfl
 case a4=>unfold maxLen;omega
 case a5=>omega
 case a6=>simp;omega
 intro v' w2 ae aa _
 obtain⟨va,vc,rfl⟩:=zP ae
 have ad:=zJ w1 (.cells #[.int .u8 c.toNat] 5) none
 have ah:(w1.alloc (.cells #[.int .u8 c.toNat] 5)).heap[wb]?=some (.cells #[.pointer (some ⟨wb,0,none⟩),v,.int .i64 op] 143 (0,0)):=zB HB.o ad (by simp)
 have ab:w2.heap[wb]?=some (.cells #[.pointer (some ⟨wb,0,none⟩),v,.int .i64 op] 143 (0,0)):=zB ah aa (fun e=>by have:=(qh HO.o wb e.symm).1;omega)
 have af:Y _:=ab
 have ai:Kept wb wtags w1 w2:=by
  refine(qq ad).trans ?_
  cases hv:v.ownBlock with
  | none=>rw[hv] at aa;exact qq aa
  | some g=>
   rw[hv] at aa
   obtain⟨c,hc⟩:=qH (xX HO.o _) g hv
   exact yj aa hc (by decide) (by have:=(qh HO.o g hv).1;omega)
 have aj:Y _:=HK.o.trans ai
 have ag:Y _:=ae
 have d1:=zqZ ab
 have f1:=zrB 1 ab
 clear ah ab ai ae aa ad
 go_wp2
 go_ret
 have hg:=zD w2 wb 1 (.slice va (l.length+1) vc)
 refine⟨rfl,Or.inr ⟨_,zF af.o _,?_⟩,aj.o.trans (yj hg af.o (by decide) (zZ _))⟩
 have ak:=zO ag.o hg (fun k hk e=>by have:=(qh ag.o k hk).1;cases e;omega)
 rw[zW,Lib.byteCells_append]
 exact ak
end Go.Proofs.YtfocdefchbnkpaaGreatDoor
