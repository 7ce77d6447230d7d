/- Rules in the order of their numbers: what the document's own function makes of them, in new memory. -/
import Derived.Test.YtfocdefchbnkpaaGreatDoorAli
import Derived.Test.YtfocdefchbnkpaaGreatDoorRefJ
import Derived.Deep.AppendLies
import Derived.Maps.AppendAt
import Derived.Laws.AppendOwnNone
import Derived.Test.YtfocdefchbnkpaaGreatDoorRefE
set_option maxRecDepth 100000
set_option maxHeartbeats 20000000
namespace Go.Proofs.YtfocdefchbnkpaaGreatDoor
open Go.RowKit
theorem zpG:(Tryz.prog.info? 126).map (fun i=>(i.zero,i.size,i.bytes))=some (some (.agg #[.int .i64 0,.string ⟨#[]⟩,.slice none 0 0,.slice none 0 0,.bool false,.string ⟨#[]⟩,.slice none 0 0,.slice none 0 0]),8,144):=by kernel_rfl
theorem yG (w:World)(n:Nat):w.grownBy (w.drewN n) none:=by
 induction n with
 | zero=>exact ze _ _
 | succ n ih=>exact zD ih (zg _)
theorem yH {w w':World}(h:Below w.heap.size w w'):w.grownBy w' none:=qJ h
def zaM (r:R.Rl)(out:List R.Rl):Nat:=(out.takeWhile fun o=>decide (o.number<r.number)).length
def fW (out:List R.Rl)(r:R.Rl):List R.Rl:=out.take (zaM r out)++[r]++out.drop (zaM r out)
def zj (l:List R.Rl):List R.Rl:=l.foldl fW []
theorem kV {α:Type}(p:α->Bool)(l:List α)(k:Nat)(hk:k<=l.length)(h1:∀j (hj:j<k),p (l[j]'(by omega))=true)(h2:∀(h:k<l.length),p l[k]=false):(l.takeWhile p).length=k:=by
 induction l generalizing k with
 | nil=>simp at hk;subst hk;rfl
 | cons a l ih=>
  match k with
  | 0=>
   have:=h2 (by simp)
   simp at this
   rw[List.takeWhile_cons,this];rfl
  | k+1=>
   have h0:=h1 0 (by omega)
   simp at h0
   rw[List.takeWhile_cons,h0,if_pos rfl,zoF,ih k (by simpa using hk) (fun j hj=>by have:=h1 (j+1) (by omega);simpa using this) (fun h=>by have:=h2 (by simpa using h);simpa using this)]
theorem zrE (r:R.Rl)(aa:List R.Rl):zaM r aa<=aa.length:=by
 unfold zaM
 exact(List.takeWhile_sublist _).length_le
theorem zrR (aa:List R.Rl)(r:R.Rl):(fW aa r).length=aa.length+1:=by
 have:=zrE r aa
 unfold fW
 simp
 omega
theorem ziF (l:List R.Rl)(r:R.Rl):zj (l++[r])=fW (zj l) r:=by
 unfold zj;rw[List.foldl_append];rfl
theorem fa (l:List R.Rl):(zj l).length=l.length:=by
 unfold zj
 have:∀(l aa:List R.Rl),(l.foldl fW aa).length=aa.length+l.length:=by
  intro l
  induction l with
  | nil=>intro aa;rfl
  | cons a l ih=>intro aa;rw[List.foldl_cons,ih,zrR];simp;omega
 rw[this];simp
theorem All2.len {α β:Type}{P:α->β->Prop}{l:List α}{m:List β}(h:All2 P l m):l.length=m.length:=by
 induction h with
 | nil=>rfl
 | cons _ _ ih=>simp[ih]
theorem qY {w:World}{aa:List (List Value)}{rs:List R.Rl}(h:All2 (RuleVal w) aa rs)(k j:Nat)(hk:k<rs.length)(hj:j<8):aa.flatten[k*8+j]?=(aa[k]'(by rw[All2.len h];exact hk))[j]?:=by
 induction h generalizing k with
 | nil=>simp at hk
 | @cons c r cs rs hc _ ih=>
  have e:c.length=8:=by obtain⟨vM,vT,vS,vD,rfl,_⟩:=hc;rfl
  match k with
  | 0=>rw[zf7,List.getElem?_append_left (by omega)];simp
  | k+1=>
   rw[zf7,List.getElem?_append_right (by omega),e,show(k+1)*8+j - 8=k*8+j by omega,ih k (by simpa using hk)];simp
theorem wF {w:World}{B:Nat}{e:TypeId}{sz:Nat}{a:Addr}{n aa:Nat}{xs:List Value}(h:w.ownsRow B e sz (.slice (some a) n aa) n xs):n<=aa/\aa<=maxLen:=by
 rcases h.2 with ⟨h1,_⟩ | ⟨g,c,cur,h1,_,_,h2,h3,_⟩
 ·cases h1
 ·simp only[qQ] at h1
  rw[h1.2.2];exact⟨h2,h3⟩
theorem All2.take {α β:Type}{P:α->β->Prop}{l:List α}{m:List β}(h:All2 P l m)(k:Nat):All2 P (l.take k) (m.take k):=by
 induction h generalizing k with
 | nil=>simp;exact .nil
 | cons h _ ih=>
  match k with
  | 0=>simp;exact .nil
  | k+1=>exact .cons h (ih k)
theorem All2.drop {α β:Type}{P:α->β->Prop}{l:List α}{m:List β}(h:All2 P l m)(k:Nat):All2 P (l.drop k) (m.drop k):=by
 induction h generalizing k with
 | nil=>simp;exact .nil
 | cons h t ih=>
  match k with
  | 0=>exact .cons h t
  | k+1=>exact ih k
theorem All2.append {α β:Type}{P:α->β->Prop}{l l':List α}{m m':List β}(h:All2 P l m)(h':All2 P l' m'):All2 P (l++l') (m++m'):=by
 induction h with
 | nil=>exact h'
 | cons h _ ih=>exact .cons h ih
theorem All2.get {α β:Type}{P:α->β->Prop}{l:List α}{m:List β}(h:All2 P l m)(k:Nat)(h1:k<l.length)(h2:k<m.length):P l[k] m[k]:=by
 induction h generalizing k with
 | nil=>simp at h1
 | cons h _ ih=>
  match k with
  | 0=>exact h
  | k+1=>exact ih k (by simpa using h1) (by simpa using h2)
theorem uy {w:World}{cs:List Value}{r:R.Rl}(h:RuleVal w cs r):∀u∈cs,u.oneCell'=true:=by
 obtain⟨vM,vT,vS,vD,rfl,h1,h2,h3,h4⟩:=h
 obtain⟨_,_,rfl⟩:=zO h1
 obtain⟨_,_,rfl⟩:=zO h2
 obtain⟨_,_,rfl⟩:=zO h3
 obtain⟨_,_,rfl⟩:=zO h4
 intro u hu
 simp at hu
 rcases hu with rfl | rfl | rfl | rfl | rfl | rfl | rfl | rfl <;> rfl
theorem te {w:World}{aa:List (List Value)}{rs:List R.Rl}(h:All2 (RuleVal w) aa rs):∀u∈aa.flatten,u.oneCell'=true:=by
 induction h with
 | nil=>intro u hu;simp at hu
 | cons h _ ih=>
  intro u hu
  rw[zf7,List.mem_append] at hu
  rcases hu with hu | hu
  ·exact uy h u hu
  ·exact ih u hu
theorem zhU {w:World}{cs:List Value}{r:R.Rl}(h:RuleVal w cs r):cs.length=8:=by
 obtain⟨vM,vT,vS,vD,rfl,_⟩:=h;rfl
theorem zaK {w:World}{aa:List (List Value)}{rs:List R.Rl}(h:All2 (RuleVal w) aa rs)(k:Nat):(aa.take k).flatten=aa.flatten.take (k*8):=by
 induction h generalizing k with
 | nil=>simp
 | @cons c r cs rs h _ ih=>
  match k with
  | 0=>simp
  | k+1=>
   have e:=zhU h
   rw[List.take_succ_cons,zf7,zf7,ih k,List.take_append,e,tW (l:=c) (by omega),show(k+1)*8 - 8=k*8 by omega]
theorem zaA {w:World}{aa:List (List Value)}{rs:List R.Rl}(h:All2 (RuleVal w) aa rs)(k:Nat):(aa.drop k).flatten=aa.flatten.drop (k*8):=by
 induction h generalizing k with
 | nil=>simp
 | @cons c r cs rs h _ ih=>
  match k with
  | 0=>simp
  | k+1=>
   have e:=zhU h
   rw[List.drop_succ_cons,zf7,ih k,List.drop_append,e,List.drop_of_length_le (l:=c) (by omega),show(k+1)*8 - 8=k*8 by omega];rfl
theorem zl0 {w:World}(v:Value)(rs:List R.Rl)(hv:RulesRow w v rs)(hn:rs.length<=4000) :
  Calls Tryz.prog 53 #[v] w fun e w'=>∃v',e = .returned v'/\Below w.heap.size w w'/\RulesRow w' v' (zj rs):=by
 obtain⟨i0,hi,ax,ay,az⟩:=info_parts zpG
 obtain⟨aE,aY,aZ⟩:=hv
 obtain⟨la,lc,rfl⟩:=zO aY
 have af:Y _:=aY
 have ad:Y _:=aZ
 clear aY aZ
 go_enter Tryz.func53,Tryz.ntmps53
 go_wp2
 go_loopw [3,4] (fun v iv wr=>∃(i:Nat) (cs:List (List Value)),i<=rs.length/\iv = .int .i64 i/\Y (wr.ownsRow w.heap.size 126 8 v i cs.flatten)/\Y (All2 (RuleVal wr) cs (zj (rs.take i)))/\Y (Below w.heap.size w wr)) (fun _ iv _=>rs.length - (intOf iv).toNat)
 case atStart=>exact⟨0,[],zo _,rfl,xd _ _ _ _,.nil,Below.refl _ _⟩
 case round=>
  obtain⟨i,cs,bm,rfl,HO,HA,HB⟩:=hrel
  have bb:(zj (rs.take i)).length=i:=by rw[fa,List.length_take];omega
  have bl:cs.length=i:=by rw[HA.o.len,bb]
  obtain⟨oa,oc,rfl⟩:=zO HO.o
  have bk:w.heap.size<=wr.heap.size:=HB.o.size
  by_cases ab:i<rs.length
  ·obtain⟨gl,gc,a9,_,bh⟩:=World.ownsRow.form af.o (by omega)
   simp only[qQ] at a9
   obtain⟨rfl,_,rfl⟩:=a9
   have c1:wr.cell? ⟨gl,i*8,none⟩=some (.int .i64 rs[i].number):=by
    have aQ:=qR af.o (i*8) (by omega)
    rw[uJ ad.o i ab] at aQ
    rw[HB.o.cell (p:=⟨gl,i*8,none⟩) bh];exact aQ
   have HS:Y (zj (rs.take (i+1))=fW (zj (rs.take i)) rs[i]):=by
    show zj _=_
    rw[uo ab,ziF]
   generalize zj (rs.take i)=out at*
   obtain⟨wo,bj⟩:∃x,x=wr:=⟨wr,rfl⟩
   subst bj
   go_wp2
   go_loopw [5] (fun kv wz=>∃k:Nat,k<=i/\kv = .int .i64 k/\Y (∀j (hj:j<k) (ho:j<out.length),out[j].number<rs[i].number)/\Y (wo.grownBy wz none)) (fun kv _=>i - (intOf kv).toNat)
   case atStart=>exact⟨0,zo _,rfl,fun j hj=>absurd hj (by omega),ze _ _⟩
   case round=>
    obtain⟨k,bi,rfl,HK,HZ⟩:=hrel
    have d1:wr.cell? ⟨gl,i*8,none⟩=some (.int .i64 rs[i].number):=by
     exact HZ.o.cell c1 (by simp)
    have aN:Y _:=zY HO.o (zb HZ.o (some wr.heap.size)) (fun k hk=>by have h1:=(zx HO.o k hk).2;have h2:=HZ.o.size;omega)
    have aT:Y (All2 (RuleVal wr) cs out):=HA.o.map fun a b hab=>hab.keep HZ.o (zi _ _)
    have aV:Y (Below w.heap.size w wr):=HB.o.trans ((qr HZ.o).mono bk)
    have zz:wo.heap.size<=wr.heap.size:=HZ.o.size
    by_cases hk:k<i
    ·obtain⟨go,bf,a8,_,_⟩:=World.ownsRow.form aN.o (by omega)
     simp only[qQ] at a8
     obtain⟨rfl,_,rfl⟩:=a8
     have bn:(k:Int)<i:=by omega
     have d2:wr.cell? ⟨go,k*8,none⟩=some (.int .i64 out[k].number):=by
      have aQ:=qR aN.o (k*8) (by omega)
      rw[uJ aT.o k (by omega)] at aQ
      exact aQ
     by_cases ba:out[k].number<rs[i].number
     ·have be:Y (∀j (hj:j<k+1) (ho:j<out.length),out[j].number<rs[i].number):=by
       intro j hj ho
       by_cases e:j=k
       ·subst e;exact ba
       ·exact HK.o j (by omega) ho
      generalize bp:out[k].number=ok at*
      generalize bq:rs[i].number=ri at*
      go_wp2_with fail
      go_quiet (fail)
      go_wp2
      exact⟨⟨k+1,by omega,by go_num,be,zD HZ.o (yG _ _)⟩,by simp[intOf];omega⟩
     ·have aU:Y (zaM rs[i] out=k):=kV _ _ _ (by omega) (fun j hj=>decide_eq_true (HK.o j hj (by omega))) (fun _=>decide_eq_false ba)
      go_wp2_with fail
      go_quiet (fail)
      have av:Y _:=yG wr nq
      have ag:Y _:=zV aN.o av.o (fun k hk c=>by cases c)
      have aj:Y (All2 (RuleVal (wr.drewN nq)) cs out):=aT.o.map fun a b hab=>hab.keep av.o (zi _ _)
      have ah:Y (Below w.heap.size w (wr.drewN nq)):=aV.o.trans ((qr av.o).mono (by omega))
      generalize wr.drewN nq=wq at*
      obtain⟨vM,vT,vS,vD,ae,hM,hT,al,hD⟩:=All2.get ad.o i (by rw[ad.o.len];exact ab) ab
      obtain⟨m1,m2,rfl⟩:=zO hM
      obtain⟨t1,t2,rfl⟩:=zO hT
      obtain⟨x1,x2,rfl⟩:=zO al
      obtain⟨e1,e2,rfl⟩:=zO hD
      have aq:Y (RuleVal w [.int .i64 rs[i].number,.string (R.str rs[i].path),.slice m1 rs[i].ms.length m2,.slice t1 rs[i].tg.length t2,.bool rs[i].change,.string (R.str rs[i].to),.slice x1 rs[i].sets.length x2,.slice e1 rs[i].drops.length e2] rs[i]):=⟨_,_,_,_,rfl,hM,hT,al,hD⟩
      clear hM hT al hD
      have aa:w.grownBy wq none:=yH ah.o
      have zq:w.heap.size<=wq.heap.size:=ah.o.size
      have aX:gl<wq.heap.size:=by have:=aa.size;omega
      have H0:Y (wq.cell? ⟨gl,i*8,none⟩=some (.int .i64 rs[i].number)):=by
       refine aa.cell (a:=⟨gl,i*8,none⟩) ?_ (by simp)
       rw[qR af.o (i*8) (by omega),show aE.flatten[i*8]?=aE.flatten[i*8+0]? from rfl,qY ad.o i 0 ab (by omega),ae];rfl
      have H1:Y (wq.cell? ⟨gl,i*8+1,none⟩=some (.string (R.str rs[i].path))):=by
       refine aa.cell (a:=⟨gl,i*8+1,none⟩) ?_ (by simp)
       rw[qR af.o (i*8+1) (by omega),qY ad.o i 1 ab (by omega),ae];rfl
      have H2:Y (wq.cell? ⟨gl,i*8+2,none⟩=some (.slice m1 rs[i].ms.length m2)):=by
       refine aa.cell (a:=⟨gl,i*8+2,none⟩) ?_ (by simp)
       rw[qR af.o (i*8+2) (by omega),qY ad.o i 2 ab (by omega),ae];rfl
      have H3:Y (wq.cell? ⟨gl,i*8+3,none⟩=some (.slice t1 rs[i].tg.length t2)):=by
       refine aa.cell (a:=⟨gl,i*8+3,none⟩) ?_ (by simp)
       rw[qR af.o (i*8+3) (by omega),qY ad.o i 3 ab (by omega),ae];rfl
      have H4:Y (wq.cell? ⟨gl,i*8+4,none⟩=some (.bool rs[i].change)):=by
       refine aa.cell (a:=⟨gl,i*8+4,none⟩) ?_ (by simp)
       rw[qR af.o (i*8+4) (by omega),qY ad.o i 4 ab (by omega),ae];rfl
      have H5:Y (wq.cell? ⟨gl,i*8+5,none⟩=some (.string (R.str rs[i].to))):=by
       refine aa.cell (a:=⟨gl,i*8+5,none⟩) ?_ (by simp)
       rw[qR af.o (i*8+5) (by omega),qY ad.o i 5 ab (by omega),ae];rfl
      have H6:Y (wq.cell? ⟨gl,i*8+6,none⟩=some (.slice x1 rs[i].sets.length x2)):=by
       refine aa.cell (a:=⟨gl,i*8+6,none⟩) ?_ (by simp)
       rw[qR af.o (i*8+6) (by omega),qY ad.o i 6 ab (by omega),ae];rfl
      have H7:Y (wq.cell? ⟨gl,i*8+7,none⟩=some (.slice e1 rs[i].drops.length e2)):=by
       refine aa.cell (a:=⟨gl,i*8+7,none⟩) ?_ (by simp)
       rw[qR af.o (i*8+7) (by omega),qY ad.o i 7 ab (by omega),ae];rfl
      clear ae aa
      have aL:Y (RuleVal wq [.int .i64 rs[i].number,.string (R.str rs[i].path),.slice m1 rs[i].ms.length m2,.slice t1 rs[i].tg.length t2,.bool rs[i].change,.string (R.str rs[i].to),.slice x1 rs[i].sets.length x2,.slice e1 rs[i].drops.length e2] rs[i]):=aq.o.keep (yH ah.o) (zi _ _)
      have HW:Y (∀j u,(cs.flatten)[j]?=some u->wq.cell? ⟨go,j,none⟩=some u):=by
       intro j u hu
       have ak:=(List.getElem?_eq_some_iff.1 hu).1
       rw[ag.o.1] at ak
       rw[qR ag.o j ak];exact hu
      have aF:=wF ag.o
      unfold maxLen at aF
      obtain⟨a0,a7⟩:=aF
      have aA:Y (cs.flatten.length=i*8):=ag.o.1
      have aM:Y (∀u∈cs.flatten,u.oneCell'=true):=te aj.o
      go_wp2_with (at_builtin;refine wpList_append_own _ rfl _ _ 117 rfl (wq.heap.size) 126 i0 _ 8 144 Tryz.underlying117 hi ax ay az rfl (by decide) _ _ _ rfl (xd _ _ _ _) ⟨go,0,none⟩ k oc (cs.flatten.take (k*8)) rfl ?a1 ?a2 ?a3 ?a4 ?a5 ?a6 ?_)
      case a1=>rw[List.length_take,aA.o];omega
      case a2=>
       intro j u hu
       rw[uR]
       rw[List.getElem?_take] at hu
       split at hu
       ·exact HW.o j u hu
       ·cases hu
      case a3=>exact fun u hu=>aM.o u (List.mem_of_mem_take hu)
      case a4=>unfold maxLen;omega
      case a5=>omega
      case a6=>exact zw _
      intro v1 w1 au an _
      obtain⟨aR,aS,rfl⟩:=zO au
      have g1:wq.grownBy w1 none:=an
      have am:Y _:=au
      have aO:Y _:=zV ag.o an (fun k hk c=>by cases c)
      have z1:wq.heap.size<=w1.heap.size:=an.size
      have d0:=g1.cell H0.o (by simp)
      have d1:=g1.cell H1.o (by simp)
      have d2:=g1.cell H2.o (by simp)
      have d3:=g1.cell H3.o (by simp)
      have d4:=g1.cell H4.o (by simp)
      have d5:=g1.cell H5.o (by simp)
      have d6:=g1.cell H6.o (by simp)
      have d7:=g1.cell H7.o (by simp)
      have aB:Y _:=g1
      clear au an g1
      go_wp2_with (at_builtin;refine wpList_append_lies _ rfl _ _ 117 rfl (wq.heap.size) 126 i0 _ 8 144 Tryz.underlying117 hi ax ay az rfl (by decide) _ _ _ rfl (qK am.o _) ⟨w1.heap.size,0,none⟩ 1 1 [.int .i64 rs[i].number,.string (R.str rs[i].path),.slice m1 rs[i].ms.length m2,.slice t1 rs[i].tg.length t2,.bool rs[i].change,.string (R.str rs[i].to),.slice x1 rs[i].sets.length x2,.slice e1 rs[i].drops.length e2] rfl rfl ?c1 ?c2 (by decide) ?c3 ?c4 ?c5 (w1.heap.size+1) (by simp) ?_)
      case c1=>exact zu _ #[_,_,_,_,_,_,_,_] _ _ (by simp)
      case c2=>exact uy aq.o
      case c3=>unfold maxLen;omega
      case c4=>omega
      case c5=>simp;omega
      intro g2 aD w2 ap ai _ _
      have ao:Y _:=ap
      have aP:Y _:=zV (qK aO.o _) ai (fun k hk c=>by have h1:=(zx ag.o k hk).2;have h2:=(zx am.o k c).1;omega)
      have z2:w1.heap.size+1<=w2.heap.size:=by have h:=ai.size;simpa using h
      have aC:Y _:=ai
      clear ap ai
      have aW:Y (∀j u,(cs.flatten)[j]?=some u->w2.cell? ⟨go,j,none⟩=some u):=by
       intro j u hu
       have ak:=(List.getElem?_eq_some_iff.1 hu).1
       rw[ag.o.1] at ak
       rw[qR aP.o j ak];exact hu
      go_wp2_with (at_builtin;refine wpList_append_own _ rfl _ _ 117 rfl (wq.heap.size) 126 i0 _ 8 144 Tryz.underlying117 hi ax ay az rfl (by decide) _ _ _ rfl ao.o ⟨go,k*8,none⟩ (i - k) (oc - k) (cs.flatten.drop (k*8)) rfl ?b1 ?b2 ?b3 ?b4 ?b5 ?b6 ?_)
      case b1=>rw[List.length_drop,aA.o];omega
      case b2=>
       intro j u hu
       rw[List.getElem?_drop] at hu
       have:=aW.o (k*8+j) u hu
       unfold Addr.add
       split
       ·rename_i h0;subst h0;exact this
       ·exact this
      case b3=>exact fun u hu=>aM.o u (List.mem_of_mem_drop hu)
      case b4=>unfold maxLen;omega
      case b5=>omega
      case b6=>omega
      intro v3 w3 aG ar _
      have gA:=zL w1 (.cells #[.int .i64 rs[i].number,.string (R.str rs[i].path),.slice m1 rs[i].ms.length m2,.slice t1 rs[i].tg.length t2,.bool rs[i].change,.string (R.str rs[i].to),.slice x1 rs[i].sets.length x2,.slice e1 rs[i].drops.length e2] 126) none
      have aH:Safe (w1.alloc (.cells #[.int .i64 rs[i].number,.string (R.str rs[i].path),.slice m1 rs[i].ms.length m2,.slice t1 rs[i].tg.length t2,.bool rs[i].change,.string (R.str rs[i].to),.slice x1 rs[i].sets.length x2,.slice e1 rs[i].drops.length e2] 126)) (Value.slice aR k aS).ownBlock leaves:=xz (qK am.o _) (by decide)
      have aI:Safe w2 (Value.slice (some ⟨g2,0,none⟩) (k+1) aD).ownBlock leaves:=xz ao.o (by decide)
      have kp:∀a b,RuleVal wq a b->RuleVal w3 a b:=fun a b hab=>(((hab.keep aB.o (zi _ _)).keep gA (zi _ _)).keep aC.o aH).keep ar aI
      have aJ:Y (All2 (RuleVal w3) (cs.take k++([[.int .i64 rs[i].number,.string (R.str rs[i].path),.slice m1 rs[i].ms.length m2,.slice t1 rs[i].tg.length t2,.bool rs[i].change,.string (R.str rs[i].to),.slice x1 rs[i].sets.length x2,.slice e1 rs[i].drops.length e2]]:List (List Value))++cs.drop k) (zj (rs.take (i+1)))):=by
       rw[HS.o];unfold fW;rw[aU.o]
       exact((aj.o.take k).append (.cons aL.o .nil) |>.append (aj.o.drop k)).map kp
      have aw:Y (w3.ownsRow w.heap.size 126 8 v3 (i+1) (cs.take k++([[.int .i64 rs[i].number,.string (R.str rs[i].path),.slice m1 rs[i].ms.length m2,.slice t1 rs[i].tg.length t2,.bool rs[i].change,.string (R.str rs[i].to),.slice x1 rs[i].sets.length x2,.slice e1 rs[i].drops.length e2]]:List (List Value))++cs.drop k).flatten):=by
       rw[yj,yj,zaK aj.o,zaA aj.o,show i+1=k+1+(i - k) by omega,show([[.int .i64 rs[i].number,.string (R.str rs[i].path),.slice m1 rs[i].ms.length m2,.slice t1 rs[i].tg.length t2,.bool rs[i].change,.string (R.str rs[i].to),.slice x1 rs[i].sets.length x2,.slice e1 rs[i].drops.length e2]]:List (List Value)).flatten=[.int .i64 rs[i].number,.string (R.str rs[i].path),.slice m1 rs[i].ms.length m2,.slice t1 rs[i].tg.length t2,.bool rs[i].change,.string (R.str rs[i].to),.slice x1 rs[i].sets.length x2,.slice e1 rs[i].drops.length e2] from rfl,x4]
       exact qF aG zq
      have aK:Y (Below w.heap.size w w3):=by
       refine ah.o.trans ?_
       have b1:=(qr aB.o).mono (show w.heap.size<=wq.heap.size by omega)
       have b2:=(b1.alloc (by omega) (.cells #[.int .i64 rs[i].number,.string (R.str rs[i].path),.slice m1 rs[i].ms.length m2,.slice t1 rs[i].tg.length t2,.bool rs[i].change,.string (R.str rs[i].to),.slice x1 rs[i].sets.length x2,.slice e1 rs[i].drops.length e2] 126)).grown aC.o (by simp;omega) (fun k hk=>by have:=(zx am.o k hk).1;omega)
       exact b2.grown ar (by omega) (fun k hk=>by have:=(zx ao.o k hk).1;omega)
      clear aG ar kp aH aI gA
      obtain⟨bc,bd,rfl⟩:=zO aw.o
      go_wp2
      go_roundw
      case rel=>exact⟨i+1,_,by omega,by go_num,aw,aJ,aK⟩
      case measure=>simp[intOf];omega
    ·have aU:Y (zaM rs[i] out=k):=kV _ _ _ (by omega) (fun j hj=>decide_eq_true (HK.o j hj (by omega))) (fun h=>by omega)
     obtain rfl:k=i:=by omega
     clear hk bi
     have bg:=aN.o.2
     rcases bg with ⟨hnil,hi0⟩ | ⟨go,bf,cur,hsl,_,_,_⟩
     ·simp only[qQ] at hnil
      obtain⟨rfl,rfl,rfl⟩:=hnil
      clear hi0
      go_wp2_with fail
      go_quiet (fail)
      have av:Y _:=yG wr nq
      have aj:Y (All2 (RuleVal (wr.drewN nq)) cs out):=aT.o.map fun a b hab=>hab.keep av.o (zi _ _)
      have ah:Y (Below w.heap.size w (wr.drewN nq)):=aV.o.trans ((qr av.o).mono (by omega))
      generalize wr.drewN nq=wq at*
      obtain⟨vM,vT,vS,vD,ae,hM,hT,al,hD⟩:=All2.get ad.o 0 (by rw[ad.o.len];exact ab) ab
      obtain⟨m1,m2,rfl⟩:=zO hM
      obtain⟨t1,t2,rfl⟩:=zO hT
      obtain⟨x1,x2,rfl⟩:=zO al
      obtain⟨e1,e2,rfl⟩:=zO hD
      have aq:Y (RuleVal w [.int .i64 rs[0].number,.string (R.str rs[0].path),.slice m1 rs[0].ms.length m2,.slice t1 rs[0].tg.length t2,.bool rs[0].change,.string (R.str rs[0].to),.slice x1 rs[0].sets.length x2,.slice e1 rs[0].drops.length e2] rs[0]):=⟨_,_,_,_,rfl,hM,hT,al,hD⟩
      clear hM hT al hD
      have aa:w.grownBy wq none:=yH ah.o
      have zq:w.heap.size<=wq.heap.size:=ah.o.size
      have aX:gl<wq.heap.size:=by have:=aa.size;omega
      have H0:Y (wq.cell? ⟨gl,0*8,none⟩=some (.int .i64 rs[0].number)):=by
       refine aa.cell (a:=⟨gl,0*8,none⟩) ?_ (by simp)
       rw[qR af.o (0*8) (by omega),show aE.flatten[0*8]?=aE.flatten[0*8+0]? from rfl,qY ad.o 0 0 ab (by omega),ae];rfl
      have H1:Y (wq.cell? ⟨gl,0*8+1,none⟩=some (.string (R.str rs[0].path))):=by
       refine aa.cell (a:=⟨gl,0*8+1,none⟩) ?_ (by simp)
       rw[qR af.o (0*8+1) (by omega),qY ad.o 0 1 ab (by omega),ae];rfl
      have H2:Y (wq.cell? ⟨gl,0*8+2,none⟩=some (.slice m1 rs[0].ms.length m2)):=by
       refine aa.cell (a:=⟨gl,0*8+2,none⟩) ?_ (by simp)
       rw[qR af.o (0*8+2) (by omega),qY ad.o 0 2 ab (by omega),ae];rfl
      have H3:Y (wq.cell? ⟨gl,0*8+3,none⟩=some (.slice t1 rs[0].tg.length t2)):=by
       refine aa.cell (a:=⟨gl,0*8+3,none⟩) ?_ (by simp)
       rw[qR af.o (0*8+3) (by omega),qY ad.o 0 3 ab (by omega),ae];rfl
      have H4:Y (wq.cell? ⟨gl,0*8+4,none⟩=some (.bool rs[0].change)):=by
       refine aa.cell (a:=⟨gl,0*8+4,none⟩) ?_ (by simp)
       rw[qR af.o (0*8+4) (by omega),qY ad.o 0 4 ab (by omega),ae];rfl
      have H5:Y (wq.cell? ⟨gl,0*8+5,none⟩=some (.string (R.str rs[0].to))):=by
       refine aa.cell (a:=⟨gl,0*8+5,none⟩) ?_ (by simp)
       rw[qR af.o (0*8+5) (by omega),qY ad.o 0 5 ab (by omega),ae];rfl
      have H6:Y (wq.cell? ⟨gl,0*8+6,none⟩=some (.slice x1 rs[0].sets.length x2)):=by
       refine aa.cell (a:=⟨gl,0*8+6,none⟩) ?_ (by simp)
       rw[qR af.o (0*8+6) (by omega),qY ad.o 0 6 ab (by omega),ae];rfl
      have H7:Y (wq.cell? ⟨gl,0*8+7,none⟩=some (.slice e1 rs[0].drops.length e2)):=by
       refine aa.cell (a:=⟨gl,0*8+7,none⟩) ?_ (by simp)
       rw[qR af.o (0*8+7) (by omega),qY ad.o 0 7 ab (by omega),ae];rfl
      clear ae aa
      have aL:Y (RuleVal wq [.int .i64 rs[0].number,.string (R.str rs[0].path),.slice m1 rs[0].ms.length m2,.slice t1 rs[0].tg.length t2,.bool rs[0].change,.string (R.str rs[0].to),.slice x1 rs[0].sets.length x2,.slice e1 rs[0].drops.length e2] rs[0]):=aq.o.keep (yH ah.o) (zi _ _)
      have d0:=H0.o
      have d1:=H1.o
      have d2:=H2.o
      have d3:=H3.o
      have d4:=H4.o
      have d5:=H5.o
      have d6:=H6.o
      have d7:=H7.o
      go_wp2_with (first
       | (at_builtin;refine wpList_append_own_none rfl _ _ 117 rfl (wq.heap.size) 126 i0 8 Tryz.underlying117 hi _ _ _ rfl (xd _ _ _ _) rfl ?_)
       | (at_builtin;refine wpList_append_lies _ rfl _ _ 117 rfl (wq.heap.size) 126 i0 _ 8 144 Tryz.underlying117 hi ax ay az rfl (by decide) _ _ _ rfl (xd _ _ _ _) ⟨wq.heap.size,0,none⟩ 1 1 [.int .i64 rs[0].number,.string (R.str rs[0].path),.slice m1 rs[0].ms.length m2,.slice t1 rs[0].tg.length t2,.bool rs[0].change,.string (R.str rs[0].to),.slice x1 rs[0].sets.length x2,.slice e1 rs[0].drops.length e2] rfl rfl ?c1 ?c2 (by decide) ?c3 ?c4 ?c5 (wq.heap.size+1) (by simp) ?_))
      case c1=>exact zu _ #[_,_,_,_,_,_,_,_] _ _ (by simp)
      case c2=>exact uy aq.o
      case c3=>unfold maxLen;omega
      case c4=>omega
      case c5=>simp
      intro g2 aD w2 ap ai _ _
      have ao:Y (w2.ownsRow wq.heap.size 126 8 (.slice (some ⟨g2,0,none⟩) 1 aD) 1 [.int .i64 rs[0].number,.string (R.str rs[0].path),.slice m1 rs[0].ms.length m2,.slice t1 rs[0].tg.length t2,.bool rs[0].change,.string (R.str rs[0].to),.slice x1 rs[0].sets.length x2,.slice e1 rs[0].drops.length e2]):=ap
      have gA:=zL wq (.cells #[.int .i64 rs[0].number,.string (R.str rs[0].path),.slice m1 rs[0].ms.length m2,.slice t1 rs[0].tg.length t2,.bool rs[0].change,.string (R.str rs[0].to),.slice x1 rs[0].sets.length x2,.slice e1 rs[0].drops.length e2] 126) none
      have aJ:Y (All2 (RuleVal w2) ([[.int .i64 rs[0].number,.string (R.str rs[0].path),.slice m1 rs[0].ms.length m2,.slice t1 rs[0].tg.length t2,.bool rs[0].change,.string (R.str rs[0].to),.slice x1 rs[0].sets.length x2,.slice e1 rs[0].drops.length e2]]:List (List Value)) (zj (rs.take (0+1)))):=by
       rw[HS.o];unfold fW
       rw[List.length_eq_zero_iff.1 bb]
       exact .cons ((aL.o.keep gA (zi _ _)).keep ai (zi _ _)) .nil
      have aw:Y (w2.ownsRow w.heap.size 126 8 (.slice (some ⟨g2,0,none⟩) 1 aD) (0+1) ([[.int .i64 rs[0].number,.string (R.str rs[0].path),.slice m1 rs[0].ms.length m2,.slice t1 rs[0].tg.length t2,.bool rs[0].change,.string (R.str rs[0].to),.slice x1 rs[0].sets.length x2,.slice e1 rs[0].drops.length e2]]:List (List Value)).flatten):=qF ap zq
      have aK:Y (Below w.heap.size w w2):=ah.o.trans (((Below.refl _ _).alloc zq _).grown ai (by simp;omega) (fun k hk=>by cases hk))
      clear ap ai gA
      go_wp2_with (at_builtin;refine wpList_append_own_none rfl _ _ 117 rfl (wq.heap.size) 126 i0 8 Tryz.underlying117 hi _ _ _ rfl ao.o rfl ?_)
      go_roundw
      case rel=>exact⟨0+1,_,by omega,by go_num,aw,aJ,aK⟩
      case measure=>simp[intOf];omega
     ·simp only[qQ] at hsl
      obtain⟨rfl,_,rfl⟩:=hsl
      go_wp2_with fail
      go_quiet (fail)
      have av:Y _:=yG wr nq
      have ag:Y _:=zV aN.o av.o (fun k hk c=>by cases c)
      have aj:Y (All2 (RuleVal (wr.drewN nq)) cs out):=aT.o.map fun a b hab=>hab.keep av.o (zi _ _)
      have ah:Y (Below w.heap.size w (wr.drewN nq)):=aV.o.trans ((qr av.o).mono (by omega))
      generalize wr.drewN nq=wq at*
      by_cases bo:k<oc
      ·obtain⟨vM,vT,vS,vD,ae,hM,hT,al,hD⟩:=All2.get ad.o k (by rw[ad.o.len];exact ab) ab
       obtain⟨m1,m2,rfl⟩:=zO hM
       obtain⟨t1,t2,rfl⟩:=zO hT
       obtain⟨x1,x2,rfl⟩:=zO al
       obtain⟨e1,e2,rfl⟩:=zO hD
       have aq:Y (RuleVal w [.int .i64 rs[k].number,.string (R.str rs[k].path),.slice m1 rs[k].ms.length m2,.slice t1 rs[k].tg.length t2,.bool rs[k].change,.string (R.str rs[k].to),.slice x1 rs[k].sets.length x2,.slice e1 rs[k].drops.length e2] rs[k]):=⟨_,_,_,_,rfl,hM,hT,al,hD⟩
       clear hM hT al hD
       have aa:w.grownBy wq none:=yH ah.o
       have zq:w.heap.size<=wq.heap.size:=ah.o.size
       have aX:gl<wq.heap.size:=by have:=aa.size;omega
       have H0:Y (wq.cell? ⟨gl,k*8,none⟩=some (.int .i64 rs[k].number)):=by
        refine aa.cell (a:=⟨gl,k*8,none⟩) ?_ (by simp)
        rw[qR af.o (k*8) (by omega),show aE.flatten[k*8]?=aE.flatten[k*8+0]? from rfl,qY ad.o k 0 ab (by omega),ae];rfl
       have H1:Y (wq.cell? ⟨gl,k*8+1,none⟩=some (.string (R.str rs[k].path))):=by
        refine aa.cell (a:=⟨gl,k*8+1,none⟩) ?_ (by simp)
        rw[qR af.o (k*8+1) (by omega),qY ad.o k 1 ab (by omega),ae];rfl
       have H2:Y (wq.cell? ⟨gl,k*8+2,none⟩=some (.slice m1 rs[k].ms.length m2)):=by
        refine aa.cell (a:=⟨gl,k*8+2,none⟩) ?_ (by simp)
        rw[qR af.o (k*8+2) (by omega),qY ad.o k 2 ab (by omega),ae];rfl
       have H3:Y (wq.cell? ⟨gl,k*8+3,none⟩=some (.slice t1 rs[k].tg.length t2)):=by
        refine aa.cell (a:=⟨gl,k*8+3,none⟩) ?_ (by simp)
        rw[qR af.o (k*8+3) (by omega),qY ad.o k 3 ab (by omega),ae];rfl
       have H4:Y (wq.cell? ⟨gl,k*8+4,none⟩=some (.bool rs[k].change)):=by
        refine aa.cell (a:=⟨gl,k*8+4,none⟩) ?_ (by simp)
        rw[qR af.o (k*8+4) (by omega),qY ad.o k 4 ab (by omega),ae];rfl
       have H5:Y (wq.cell? ⟨gl,k*8+5,none⟩=some (.string (R.str rs[k].to))):=by
        refine aa.cell (a:=⟨gl,k*8+5,none⟩) ?_ (by simp)
        rw[qR af.o (k*8+5) (by omega),qY ad.o k 5 ab (by omega),ae];rfl
       have H6:Y (wq.cell? ⟨gl,k*8+6,none⟩=some (.slice x1 rs[k].sets.length x2)):=by
        refine aa.cell (a:=⟨gl,k*8+6,none⟩) ?_ (by simp)
        rw[qR af.o (k*8+6) (by omega),qY ad.o k 6 ab (by omega),ae];rfl
       have H7:Y (wq.cell? ⟨gl,k*8+7,none⟩=some (.slice e1 rs[k].drops.length e2)):=by
        refine aa.cell (a:=⟨gl,k*8+7,none⟩) ?_ (by simp)
        rw[qR af.o (k*8+7) (by omega),qY ad.o k 7 ab (by omega),ae];rfl
       clear ae aa
       have aL:Y (RuleVal wq [.int .i64 rs[k].number,.string (R.str rs[k].path),.slice m1 rs[k].ms.length m2,.slice t1 rs[k].tg.length t2,.bool rs[k].change,.string (R.str rs[k].to),.slice x1 rs[k].sets.length x2,.slice e1 rs[k].drops.length e2] rs[k]):=aq.o.keep (yH ah.o) (zi _ _)
       have HW:Y (∀j u,(cs.flatten)[j]?=some u->wq.cell? ⟨go,j,none⟩=some u):=by
        intro j u hu
        have ak:=(List.getElem?_eq_some_iff.1 hu).1
        rw[ag.o.1] at ak
        rw[qR ag.o j ak];exact hu
       have aF:=wF ag.o
       unfold maxLen at aF
       obtain⟨a0,a7⟩:=aF
       have aA:Y (cs.flatten.length=k*8):=ag.o.1
       have aM:Y (∀u∈cs.flatten,u.oneCell'=true):=te aj.o
       go_wp2_with (at_builtin;refine wpList_append_own _ rfl _ _ 117 rfl (wq.heap.size) 126 i0 _ 8 144 Tryz.underlying117 hi ax ay az rfl (by decide) _ _ _ rfl (xd _ _ _ _) ⟨go,0,none⟩ k oc (cs.flatten.take (k*8)) rfl ?a1 ?a2 ?a3 ?a4 ?a5 ?a6 ?_)
       case a1=>rw[List.length_take,aA.o];omega
       case a2=>
        intro j u hu
        rw[uR]
        rw[List.getElem?_take] at hu
        split at hu
        ·exact HW.o j u hu
        ·cases hu
       case a3=>exact fun u hu=>aM.o u (List.mem_of_mem_take hu)
       case a4=>unfold maxLen;omega
       case a5=>omega
       case a6=>exact zw _
       intro v1 w1 au an _
       obtain⟨aR,aS,rfl⟩:=zO au
       have g1:wq.grownBy w1 none:=an
       have am:Y _:=au
       have aO:Y _:=zV ag.o an (fun k hk c=>by cases c)
       have z1:wq.heap.size<=w1.heap.size:=an.size
       have d0:=g1.cell H0.o (by simp)
       have d1:=g1.cell H1.o (by simp)
       have d2:=g1.cell H2.o (by simp)
       have d3:=g1.cell H3.o (by simp)
       have d4:=g1.cell H4.o (by simp)
       have d5:=g1.cell H5.o (by simp)
       have d6:=g1.cell H6.o (by simp)
       have d7:=g1.cell H7.o (by simp)
       have aB:Y _:=g1
       clear au an g1
       go_wp2_with (at_builtin;refine wpList_append_lies _ rfl _ _ 117 rfl (wq.heap.size) 126 i0 _ 8 144 Tryz.underlying117 hi ax ay az rfl (by decide) _ _ _ rfl (qK am.o _) ⟨w1.heap.size,0,none⟩ 1 1 [.int .i64 rs[k].number,.string (R.str rs[k].path),.slice m1 rs[k].ms.length m2,.slice t1 rs[k].tg.length t2,.bool rs[k].change,.string (R.str rs[k].to),.slice x1 rs[k].sets.length x2,.slice e1 rs[k].drops.length e2] rfl rfl ?c1 ?c2 (by decide) ?c3 ?c4 ?c5 (w1.heap.size+1) (by simp) ?_)
       case c1=>exact zu _ #[_,_,_,_,_,_,_,_] _ _ (by simp)
       case c2=>exact uy aq.o
       case c3=>unfold maxLen;omega
       case c4=>omega
       case c5=>simp;omega
       intro g2 aD w2 ap ai _ _
       have ao:Y _:=ap
       have aP:Y _:=zV (qK aO.o _) ai (fun k hk c=>by have h1:=(zx ag.o k hk).2;have h2:=(zx am.o k c).1;omega)
       have z2:w1.heap.size+1<=w2.heap.size:=by have h:=ai.size;simpa using h
       have aC:Y _:=ai
       clear ap ai
       have aW:Y (∀j u,(cs.flatten)[j]?=some u->w2.cell? ⟨go,j,none⟩=some u):=by
        intro j u hu
        have ak:=(List.getElem?_eq_some_iff.1 hu).1
        rw[ag.o.1] at ak
        rw[qR aP.o j ak];exact hu
       go_wp2_with (at_builtin;refine wpList_append_own _ rfl _ _ 117 rfl (wq.heap.size) 126 i0 _ 8 144 Tryz.underlying117 hi ax ay az rfl (by decide) _ _ _ rfl ao.o ⟨go,k*8,none⟩ 0 (oc - k) [] rfl ?b1 ?b2 ?b3 ?b4 ?b5 ?b6 ?_)
       case b1=>rfl
       case b2=>intro j u hu;simp at hu
       case b3=>exact fun u hu=>by simp at hu
       case b4=>unfold maxLen;omega
       case b5=>omega
       case b6=>omega
       intro v3 w3 aG ar _
       have gA:=zL w1 (.cells #[.int .i64 rs[k].number,.string (R.str rs[k].path),.slice m1 rs[k].ms.length m2,.slice t1 rs[k].tg.length t2,.bool rs[k].change,.string (R.str rs[k].to),.slice x1 rs[k].sets.length x2,.slice e1 rs[k].drops.length e2] 126) none
       have aH:Safe (w1.alloc (.cells #[.int .i64 rs[k].number,.string (R.str rs[k].path),.slice m1 rs[k].ms.length m2,.slice t1 rs[k].tg.length t2,.bool rs[k].change,.string (R.str rs[k].to),.slice x1 rs[k].sets.length x2,.slice e1 rs[k].drops.length e2] 126)) (Value.slice aR k aS).ownBlock leaves:=xz (qK am.o _) (by decide)
       have aI:Safe w2 (Value.slice (some ⟨g2,0,none⟩) (k+1) aD).ownBlock leaves:=xz ao.o (by decide)
       have kp:∀a b,RuleVal wq a b->RuleVal w3 a b:=fun a b hab=>(((hab.keep aB.o (zi _ _)).keep gA (zi _ _)).keep aC.o aH).keep ar aI
       have aJ:Y (All2 (RuleVal w3) (cs.take k++([[.int .i64 rs[k].number,.string (R.str rs[k].path),.slice m1 rs[k].ms.length m2,.slice t1 rs[k].tg.length t2,.bool rs[k].change,.string (R.str rs[k].to),.slice x1 rs[k].sets.length x2,.slice e1 rs[k].drops.length e2]]:List (List Value))++cs.drop k) (zj (rs.take (k+1)))):=by
        rw[HS.o];unfold fW;rw[aU.o]
        exact((aj.o.take k).append (.cons aL.o .nil) |>.append (aj.o.drop k)).map kp
       have aw:Y (w3.ownsRow w.heap.size 126 8 v3 (k+1) (cs.take k++([[.int .i64 rs[k].number,.string (R.str rs[k].path),.slice m1 rs[k].ms.length m2,.slice t1 rs[k].tg.length t2,.bool rs[k].change,.string (R.str rs[k].to),.slice x1 rs[k].sets.length x2,.slice e1 rs[k].drops.length e2]]:List (List Value))++cs.drop k).flatten):=by
        rw[yj,yj,zaK aj.o,zaA aj.o,show k+1=k+1+0 by omega,show([[.int .i64 rs[k].number,.string (R.str rs[k].path),.slice m1 rs[k].ms.length m2,.slice t1 rs[k].tg.length t2,.bool rs[k].change,.string (R.str rs[k].to),.slice x1 rs[k].sets.length x2,.slice e1 rs[k].drops.length e2]]:List (List Value)).flatten=[.int .i64 rs[k].number,.string (R.str rs[k].path),.slice m1 rs[k].ms.length m2,.slice t1 rs[k].tg.length t2,.bool rs[k].change,.string (R.str rs[k].to),.slice x1 rs[k].sets.length x2,.slice e1 rs[k].drops.length e2] from rfl,List.drop_of_length_le (l:=cs.flatten) (by rw[aA.o];omega),x4]
        exact qF aG zq
       have aK:Y (Below w.heap.size w w3):=by
        refine ah.o.trans ?_
        have b1:=(qr aB.o).mono (show w.heap.size<=wq.heap.size by omega)
        have b2:=(b1.alloc (by omega) (.cells #[.int .i64 rs[k].number,.string (R.str rs[k].path),.slice m1 rs[k].ms.length m2,.slice t1 rs[k].tg.length t2,.bool rs[k].change,.string (R.str rs[k].to),.slice x1 rs[k].sets.length x2,.slice e1 rs[k].drops.length e2] 126)).grown aC.o (by simp;omega) (fun k hk=>by have:=(zx am.o k hk).1;omega)
        exact b2.grown ar (by omega) (fun k hk=>by have:=(zx ao.o k hk).1;omega)
       clear aG ar kp aH aI gA
       obtain⟨bc,bd,rfl⟩:=zO aw.o
       go_wp2
       go_roundw
       case rel=>exact⟨k+1,_,by omega,by go_num,aw,aJ,aK⟩
       case measure=>simp[intOf];omega
      ·obtain rfl:oc=k:=by have h:=(wF ag.o).1;omega
       obtain⟨vM,vT,vS,vD,ae,hM,hT,al,hD⟩:=All2.get ad.o oc (by rw[ad.o.len];exact ab) ab
       obtain⟨m1,m2,rfl⟩:=zO hM
       obtain⟨t1,t2,rfl⟩:=zO hT
       obtain⟨x1,x2,rfl⟩:=zO al
       obtain⟨e1,e2,rfl⟩:=zO hD
       have aq:Y (RuleVal w [.int .i64 rs[oc].number,.string (R.str rs[oc].path),.slice m1 rs[oc].ms.length m2,.slice t1 rs[oc].tg.length t2,.bool rs[oc].change,.string (R.str rs[oc].to),.slice x1 rs[oc].sets.length x2,.slice e1 rs[oc].drops.length e2] rs[oc]):=⟨_,_,_,_,rfl,hM,hT,al,hD⟩
       clear hM hT al hD
       have aa:w.grownBy wq none:=yH ah.o
       have zq:w.heap.size<=wq.heap.size:=ah.o.size
       have aX:gl<wq.heap.size:=by have:=aa.size;omega
       have H0:Y (wq.cell? ⟨gl,oc*8,none⟩=some (.int .i64 rs[oc].number)):=by
        refine aa.cell (a:=⟨gl,oc*8,none⟩) ?_ (by simp)
        rw[qR af.o (oc*8) (by omega),show aE.flatten[oc*8]?=aE.flatten[oc*8+0]? from rfl,qY ad.o oc 0 ab (by omega),ae];rfl
       have H1:Y (wq.cell? ⟨gl,oc*8+1,none⟩=some (.string (R.str rs[oc].path))):=by
        refine aa.cell (a:=⟨gl,oc*8+1,none⟩) ?_ (by simp)
        rw[qR af.o (oc*8+1) (by omega),qY ad.o oc 1 ab (by omega),ae];rfl
       have H2:Y (wq.cell? ⟨gl,oc*8+2,none⟩=some (.slice m1 rs[oc].ms.length m2)):=by
        refine aa.cell (a:=⟨gl,oc*8+2,none⟩) ?_ (by simp)
        rw[qR af.o (oc*8+2) (by omega),qY ad.o oc 2 ab (by omega),ae];rfl
       have H3:Y (wq.cell? ⟨gl,oc*8+3,none⟩=some (.slice t1 rs[oc].tg.length t2)):=by
        refine aa.cell (a:=⟨gl,oc*8+3,none⟩) ?_ (by simp)
        rw[qR af.o (oc*8+3) (by omega),qY ad.o oc 3 ab (by omega),ae];rfl
       have H4:Y (wq.cell? ⟨gl,oc*8+4,none⟩=some (.bool rs[oc].change)):=by
        refine aa.cell (a:=⟨gl,oc*8+4,none⟩) ?_ (by simp)
        rw[qR af.o (oc*8+4) (by omega),qY ad.o oc 4 ab (by omega),ae];rfl
       have H5:Y (wq.cell? ⟨gl,oc*8+5,none⟩=some (.string (R.str rs[oc].to))):=by
        refine aa.cell (a:=⟨gl,oc*8+5,none⟩) ?_ (by simp)
        rw[qR af.o (oc*8+5) (by omega),qY ad.o oc 5 ab (by omega),ae];rfl
       have H6:Y (wq.cell? ⟨gl,oc*8+6,none⟩=some (.slice x1 rs[oc].sets.length x2)):=by
        refine aa.cell (a:=⟨gl,oc*8+6,none⟩) ?_ (by simp)
        rw[qR af.o (oc*8+6) (by omega),qY ad.o oc 6 ab (by omega),ae];rfl
       have H7:Y (wq.cell? ⟨gl,oc*8+7,none⟩=some (.slice e1 rs[oc].drops.length e2)):=by
        refine aa.cell (a:=⟨gl,oc*8+7,none⟩) ?_ (by simp)
        rw[qR af.o (oc*8+7) (by omega),qY ad.o oc 7 ab (by omega),ae];rfl
       clear ae aa
       have aL:Y (RuleVal wq [.int .i64 rs[oc].number,.string (R.str rs[oc].path),.slice m1 rs[oc].ms.length m2,.slice t1 rs[oc].tg.length t2,.bool rs[oc].change,.string (R.str rs[oc].to),.slice x1 rs[oc].sets.length x2,.slice e1 rs[oc].drops.length e2] rs[oc]):=aq.o.keep (yH ah.o) (zi _ _)
       have HW:Y (∀j u,(cs.flatten)[j]?=some u->wq.cell? ⟨go,j,none⟩=some u):=by
        intro j u hu
        have ak:=(List.getElem?_eq_some_iff.1 hu).1
        rw[ag.o.1] at ak
        rw[qR ag.o j ak];exact hu
       have aF:=wF ag.o
       unfold maxLen at aF
       obtain⟨a0,a7⟩:=aF
       have aA:Y (cs.flatten.length=oc*8):=ag.o.1
       have aM:Y (∀u∈cs.flatten,u.oneCell'=true):=te aj.o
       go_wp2_with (at_builtin;refine wpList_append_own _ rfl _ _ 117 rfl (wq.heap.size) 126 i0 _ 8 144 Tryz.underlying117 hi ax ay az rfl (by decide) _ _ _ rfl (xd _ _ _ _) ⟨go,0,none⟩ oc oc (cs.flatten.take (oc*8)) rfl ?a1 ?a2 ?a3 ?a4 ?a5 ?a6 ?_)
       case a1=>rw[List.length_take,aA.o];omega
       case a2=>
        intro j u hu
        rw[uR]
        rw[List.getElem?_take] at hu
        split at hu
        ·exact HW.o j u hu
        ·cases hu
       case a3=>exact fun u hu=>aM.o u (List.mem_of_mem_take hu)
       case a4=>unfold maxLen;omega
       case a5=>omega
       case a6=>exact zw _
       intro v1 w1 au an _
       obtain⟨aR,aS,rfl⟩:=zO au
       have g1:wq.grownBy w1 none:=an
       have am:Y _:=au
       have aO:Y _:=zV ag.o an (fun oc hk c=>by cases c)
       have z1:wq.heap.size<=w1.heap.size:=an.size
       have d0:=g1.cell H0.o (by simp)
       have d1:=g1.cell H1.o (by simp)
       have d2:=g1.cell H2.o (by simp)
       have d3:=g1.cell H3.o (by simp)
       have d4:=g1.cell H4.o (by simp)
       have d5:=g1.cell H5.o (by simp)
       have d6:=g1.cell H6.o (by simp)
       have d7:=g1.cell H7.o (by simp)
       have aB:Y _:=g1
       clear au an g1
       go_wp2_with (at_builtin;refine wpList_append_lies _ rfl _ _ 117 rfl (wq.heap.size) 126 i0 _ 8 144 Tryz.underlying117 hi ax ay az rfl (by decide) _ _ _ rfl (qK am.o _) ⟨w1.heap.size,0,none⟩ 1 1 [.int .i64 rs[oc].number,.string (R.str rs[oc].path),.slice m1 rs[oc].ms.length m2,.slice t1 rs[oc].tg.length t2,.bool rs[oc].change,.string (R.str rs[oc].to),.slice x1 rs[oc].sets.length x2,.slice e1 rs[oc].drops.length e2] rfl rfl ?c1 ?c2 (by decide) ?c3 ?c4 ?c5 (w1.heap.size+1) (by simp) ?_)
       case c1=>exact zu _ #[_,_,_,_,_,_,_,_] _ _ (by simp)
       case c2=>exact uy aq.o
       case c3=>unfold maxLen;omega
       case c4=>omega
       case c5=>simp;omega
       intro g2 aD w2 ap ai _ _
       have ao:Y _:=ap
       have aP:Y _:=zV (qK aO.o _) ai (fun oc hk c=>by have h1:=(zx ag.o oc hk).2;have h2:=(zx am.o oc c).1;omega)
       have z2:w1.heap.size+1<=w2.heap.size:=by have h:=ai.size;simpa using h
       have aC:Y _:=ai
       clear ap ai
       have aW:Y (∀j u,(cs.flatten)[j]?=some u->w2.cell? ⟨go,j,none⟩=some u):=by
        intro j u hu
        have ak:=(List.getElem?_eq_some_iff.1 hu).1
        rw[ag.o.1] at ak
        rw[qR aP.o j ak];exact hu
       go_wp2_with (at_builtin;refine wpList_append_own _ rfl _ _ 117 rfl (wq.heap.size) 126 i0 _ 8 144 Tryz.underlying117 hi ax ay az rfl (by decide) _ _ _ rfl ao.o ⟨go,0,none⟩ 0 0 [] rfl ?b1 ?b2 ?b3 ?b4 ?b5 ?b6 ?_)
       case b1=>rfl
       case b2=>intro j u hu;simp at hu
       case b3=>exact fun u hu=>by simp at hu
       case b4=>unfold maxLen;omega
       case b5=>omega
       case b6=>omega
       intro v3 w3 aG ar _
       have gA:=zL w1 (.cells #[.int .i64 rs[oc].number,.string (R.str rs[oc].path),.slice m1 rs[oc].ms.length m2,.slice t1 rs[oc].tg.length t2,.bool rs[oc].change,.string (R.str rs[oc].to),.slice x1 rs[oc].sets.length x2,.slice e1 rs[oc].drops.length e2] 126) none
       have aH:Safe (w1.alloc (.cells #[.int .i64 rs[oc].number,.string (R.str rs[oc].path),.slice m1 rs[oc].ms.length m2,.slice t1 rs[oc].tg.length t2,.bool rs[oc].change,.string (R.str rs[oc].to),.slice x1 rs[oc].sets.length x2,.slice e1 rs[oc].drops.length e2] 126)) (Value.slice aR oc aS).ownBlock leaves:=xz (qK am.o _) (by decide)
       have aI:Safe w2 (Value.slice (some ⟨g2,0,none⟩) (oc+1) aD).ownBlock leaves:=xz ao.o (by decide)
       have kp:∀a b,RuleVal wq a b->RuleVal w3 a b:=fun a b hab=>(((hab.keep aB.o (zi _ _)).keep gA (zi _ _)).keep aC.o aH).keep ar aI
       have aJ:Y (All2 (RuleVal w3) (cs.take oc++([[.int .i64 rs[oc].number,.string (R.str rs[oc].path),.slice m1 rs[oc].ms.length m2,.slice t1 rs[oc].tg.length t2,.bool rs[oc].change,.string (R.str rs[oc].to),.slice x1 rs[oc].sets.length x2,.slice e1 rs[oc].drops.length e2]]:List (List Value))++cs.drop oc) (zj (rs.take (oc+1)))):=by
        rw[HS.o];unfold fW;rw[aU.o]
        exact((aj.o.take oc).append (.cons aL.o .nil) |>.append (aj.o.drop oc)).map kp
       have aw:Y (w3.ownsRow w.heap.size 126 8 v3 (oc+1) (cs.take oc++([[.int .i64 rs[oc].number,.string (R.str rs[oc].path),.slice m1 rs[oc].ms.length m2,.slice t1 rs[oc].tg.length t2,.bool rs[oc].change,.string (R.str rs[oc].to),.slice x1 rs[oc].sets.length x2,.slice e1 rs[oc].drops.length e2]]:List (List Value))++cs.drop oc).flatten):=by
        rw[yj,yj,zaK aj.o,zaA aj.o,show oc+1=oc+1+0 by omega,show([[.int .i64 rs[oc].number,.string (R.str rs[oc].path),.slice m1 rs[oc].ms.length m2,.slice t1 rs[oc].tg.length t2,.bool rs[oc].change,.string (R.str rs[oc].to),.slice x1 rs[oc].sets.length x2,.slice e1 rs[oc].drops.length e2]]:List (List Value)).flatten=[.int .i64 rs[oc].number,.string (R.str rs[oc].path),.slice m1 rs[oc].ms.length m2,.slice t1 rs[oc].tg.length t2,.bool rs[oc].change,.string (R.str rs[oc].to),.slice x1 rs[oc].sets.length x2,.slice e1 rs[oc].drops.length e2] from rfl,List.drop_of_length_le (l:=cs.flatten) (by rw[aA.o];omega),x4]
        exact qF aG zq
       have aK:Y (Below w.heap.size w w3):=by
        refine ah.o.trans ?_
        have b1:=(qr aB.o).mono (show w.heap.size<=wq.heap.size by omega)
        have b2:=(b1.alloc (by omega) (.cells #[.int .i64 rs[oc].number,.string (R.str rs[oc].path),.slice m1 rs[oc].ms.length m2,.slice t1 rs[oc].tg.length t2,.bool rs[oc].change,.string (R.str rs[oc].to),.slice x1 rs[oc].sets.length x2,.slice e1 rs[oc].drops.length e2] 126)).grown aC.o (by simp;omega) (fun oc hk=>by have:=(zx am.o oc hk).1;omega)
        exact b2.grown ar (by omega) (fun oc hk=>by have:=(zx ao.o oc hk).1;omega)
       clear aG ar kp aH aI gA
       obtain⟨bc,bd,rfl⟩:=zO aw.o
       go_wp2
       go_roundw
       case rel=>exact⟨oc+1,_,by omega,by go_num,aw,aJ,aK⟩
       case measure=>simp[intOf];omega
  ·go_wp2
   go_ret
   rw[show i=rs.length by omega,tW (zw _)] at HA
   refine⟨_,rfl,HB.o,cs,?_,HA.o⟩
   rw[fa,show rs.length=i by omega]
   exact qF HO.o (zo _)
end Go.Proofs.YtfocdefchbnkpaaGreatDoor
namespace Go.Proofs.YtfocdefchbnkpaaGreatDoor
open Go.RowKit
namespace R
theorem overS_bad {t:Tok}{st:St}{ok:Bool}(h:0<=st.bad):overS t st ok=st:=by unfold overS;rw[if_pos h]
theorem needS_bad {ts:List Tok}{st:St}{s:List UInt8}(h:0<=st.bad):needS ts st s=st:=overS_bad h
theorem kindS_bad {ts:List Tok}{st:St}{k:Int}(h:0<=st.bad):kindS ts st k=st:=overS_bad h
theorem notS_bad {st:St}{ok:Bool}{e a:Int}(h:0<=st.bad):notS st ok e a=st:=by
 unfold notS;rw[if_neg];intro c;omega
theorem isB_bad {st:St}{t:Tok}{s:List UInt8}(h:0<=st.bad):isB st t s=false:=by
 unfold isB;rw[decide_eq_false (by omega)];rfl
theorem pathS_bad {ts:List Tok}{st:St}(h:0<=st.bad):(pathS ts st).2=st:=by
 unfold pathS;simp only;rw[kindS_bad h,notS_bad h]
theorem valueS_bad {ts:List Tok}{st:St}(h:0<=st.bad):(valueS ts st).2=st:=by
 unfold valueS;simp only;rw[needS_bad h,kindS_bad h,notS_bad h]
theorem among_bad {l:List (List UInt8)}{s:List UInt8}{p:Int}{st:St}(h:0<=st.bad):among l s p st=st:=by
 unfold among
 induction l with
 | nil=>rfl
 | cons a l ih=>rw[List.foldl_cons,notS_bad h];exact ih
theorem amongN_bad {l:List Int}{n p:Int}{st:St}(h:0<=st.bad):amongN l n p st=st:=by
 unfold amongN
 induction l with
 | nil=>rfl
 | cons a l ih=>rw[List.foldl_cons,notS_bad h];exact ih
theorem headerS_bad {ts:List Tok}{st:St}{l:List (List UInt8)}(h:0<=st.bad):(headerS ts st l).2=st:=by
 unfold headerS;simp only;rw[kindS_bad h,notS_bad h,among_bad h]
theorem mtLoop_bad {ts:List Tok}{n:Nat}{st:St}{aa:List Mt}(h:0<=st.bad):mtLoop ts n st aa=(aa,st):=by
 cases n with
 | zero=>rfl
 | succ n=>unfold mtLoop;rw[isB_bad h];rfl
theorem tgLoop_bad {ts:List Tok}{n i:Nat}{st:St}{aa:List (List UInt8×Int)}(h:0<=st.bad):tgLoop ts n st i aa=(aa,st):=by
 cases n with
 | zero=>rfl
 | succ n=>unfold tgLoop;rw[if_neg (by omega)]
theorem targetsS_bad {ts:List Tok}{st:St}(h:0<=st.bad):(targetsS ts st).2=st:=by
 unfold targetsS;simp only;rw[needS_bad h,notS_bad h,tgLoop_bad h];simp only;rw[needS_bad h]
theorem stLoop_bad {ts:List Tok}{n:Nat}{st:St}{aa:List (List UInt8×List UInt8)}(h:0<=st.bad):stLoop ts n st aa=(aa,st):=by
 cases n with
 | zero=>rfl
 | succ n=>unfold stLoop;rw[isB_bad h];rfl
theorem dpLoop_bad {ts:List Tok}{ab:List (List UInt8)}{n:Nat}{st:St}{aa:List (List UInt8)}(h:0<=st.bad):dpLoop ts ab n st aa=(aa,st):=by
 cases n with
 | zero=>rfl
 | succ n=>unfold dpLoop;rw[isB_bad h];rfl
theorem editsS_bad {ts:List Tok}{st:St}(h:0<=st.bad):(editsS ts st).2=st:=by
 unfold editsS;simp only;rw[stLoop_bad h];simp only;rw[dpLoop_bad h]
theorem rlB_bad {ts:List Tok}{st:St}(h:0<=st.bad):(rlB ts st).2=st:=by
 unfold rlB;simp only;rw[needS_bad h,needS_bad h,pathS_bad h,needS_bad h]
theorem rlC_bad {ts:List Tok}{st:St}(h:0<=st.bad):(rlC ts st).2=st:=by
 unfold rlC;rw[isB_bad h];rfl
theorem rlA_bad {ts:List Tok}{st:St}{i:Nat}{l:List Int}(h:0<=st.bad):(rlA ts st i l).2=st:=by
 unfold rlA rlA2;simp only;rw[needS_bad h,notS_bad h,kindS_bad h,notS_bad h,amongN_bad h]
theorem ruleS_bad {ts:List Tok}{st:St}{i:Nat}{l:List Int}(h:0<=st.bad):(ruleS ts st i l).2=st:=by
 unfold ruleS ruleT ruleE matchesS;simp only
 rw[rlA_bad h,rlB_bad h,mtLoop_bad h];simp only
 rw[targetsS_bad h,rlC_bad h,editsS_bad h,needS_bad h]
theorem rlLoop_bad {ts:List Tok}{n:Nat}{st:St}{aa:List Rl}(h:0<=st.bad):rlLoop ts n st aa=(aa,st):=by
 cases n with
 | zero=>rfl
 | succ n=>unfold rlLoop;rw[isB_bad h];rfl
theorem rlLoop_K (ts:List Tok)(n:Nat):∀(st:St) (aa:List Rl),st.K<=(rlLoop ts n st aa).2.K:=by
 induction n with
 | zero=>intro st aa;exact zw _
 | succ n ih=>
  intro st aa;unfold rlLoop;split
  ·rename_i h
   have h1:=ruleS_K ts st aa.length (aa.map Rl.number) h
   have h2:=ih (ruleS ts st aa.length (aa.map Rl.number)).2 (aa++[(ruleS ts st aa.length (aa.map Rl.number)).1])
   omega
  ·exact zw _
theorem hsA_K (ts:List Tok)(st:St)(l:List (List UInt8)):(needS ts st wHost).K<=(hsA ts st l).2.K:=by
 unfold hsA hsA2;simp only[among_K,notS_K]
 have:=kindS_K ts (notS (needS ts st wHost) (decide ((l.length:Int)<4)) 3 (cur ts st).at_) 34
 rwa[notS_K] at this
theorem hsB_K (ts:List Tok)(a:List UInt8×St):a.2.K<=(hsB ts a).2.K:=by
 unfold hsB;simp only
 exact qf (qf (needS_K _ _ _) (rlLoop_K _ _ _ _)) (needS_K _ _ _)
theorem hsA_bad {ts:List Tok}{st:St}{l:List (List UInt8)}(h:0<=(needS ts st wHost).bad):(hsA ts st l).2=needS ts st wHost:=by
 unfold hsA hsA2;simp only
 rw[notS_bad h,kindS_bad h,notS_bad h,among_bad h]
theorem hsB_bad {ts:List Tok}{a:List UInt8×St}(h:0<=a.2.bad):(hsB ts a).2=a.2:=by
 unfold hsB;simp only
 rw[needS_bad h,rlLoop_bad h];simp only;rw[needS_bad h]
theorem hostS_K (ts:List Tok)(st:St)(l:List (List UInt8)):st.K<=(hostS ts st l).2.K:=by
 unfold hostS
 exact qf (qf (needS_K _ _ _) (hsA_K ts st l)) (hsB_K _ _)
theorem needS_no {ts:List Tok}{st:St}{s:List UInt8}(hb:st.bad<0)(h:isB st (cur ts st) s=false):(needS ts st s).bad=(cur ts st).at_:=by
 unfold needS overS;rw[if_neg (by omega),h];rfl
theorem hostS_go (ts:List Tok)(st:St)(l:List (List UInt8))(hb:st.bad<0)(hg:(hostS ts st l).2.bad<0):st.K+1<=(hostS ts st l).2.K:=by
 cases h:isB st (cur ts st) wHost with
 | true=>
  have h1:(needS ts st wHost).K=st.K+1:=by rw[needS_yes h]
  have h2:=hsA_K ts st l
  have h3:=hsB_K ts (hsA ts st l)
  unfold hostS;omega
 | false=>
  exfalso
  have h1:=needS_no hb h
  have h0:0<=(needS ts st wHost).bad:=by rw[h1];omega
  unfold hostS at hg
  rw[hsB_bad (by rw[hsA_bad h0];exact h0),hsA_bad h0] at hg
  omega
def hsLoop (ts:List Tok):Nat->St->List Hst->List Hst×St
 | 0,st,acc=>(acc,st)
 | n+1,st,acc=>if st.bad<0/\(cur ts st).k≠0 then hsLoop ts n (hostS ts st (acc.map Hst.name)).2 (acc++[(hostS ts st (acc.map Hst.name)).1]) else (acc,st)
def st0:St:=⟨0,-1,0,0⟩
def readS (l:List UInt8):List Hst×St:=hsLoop (toks l) ((toks l).length+2) st0 []
theorem wrap_id (n:Int)(h0:0<=n)(h:n<9223372036854775808):wrap64 n=n:=by unfold wrap64;omega
theorem numStep_digit (n:Int)(c:UInt8)(h0:0<=n)(h1:n<=100000000)(hc:digitI c.toNat=true):numStep n c=10*n+(c.toNat - 48)/\0<=(c.toNat:Int) - 48/\(c.toNat:Int) - 48<=9:=by
 unfold digitI at hc
 simp only[Bool.and_eq_true,decide_eq_true_eq] at hc
 unfold numStep
 have e:((c.toNat:Int) - 48) % 256=c.toNat - 48:=by omega
 rw[e,wrap_id (10*n) (by omega) (by omega),wrap_id _ (by omega) (by omega)]
 omega
theorem num_le (l:List UInt8)(hd:∀c∈l,digitI c.toNat=true)(hl:l.length<=5):0<=num l/\num l<=99999:=by
 have ab:∀(l:List UInt8) (aa:Int) (m:Nat),(∀c∈l,digitI c.toNat=true)->0<=aa->aa+1<=(10:Int) ^ m->m+l.length<=5->0<=l.foldl numStep aa/\l.foldl numStep aa+1<=(10:Int) ^ (m+l.length):=by
  intro l
  induction l with
  | nil=>intro aa m _ h0 h1 _;exact⟨h0,h1⟩
  | cons c l ih=>
   intro aa m hd h0 h1 hm
   have hp:(10:Int) ^ m<=100000:=by
    have:m<=5:=by omega
    match m,this with
    | 0,_=>decide
    | 1,_=>decide
    | 2,_=>decide
    | 3,_=>decide
    | 4,_=>decide
    | 5,_=>decide
   obtain⟨e,g0,g1⟩:=numStep_digit aa c h0 (by omega) (hd c (by simp))
   rw[List.foldl_cons,e]
   have:=ih (10*aa+(c.toNat - 48)) (m+1) (fun d hdm=>hd d (by simp[hdm])) (by omega) (by rw[Int.pow_succ];omega) (by simp at hm;omega)
   rw[zoF,show m+(l.length+1)=m+1+l.length by omega]
   exact this
 have:=ab l 0 0 hd (by omega) (by decide) (by omega)
 unfold num
 refine⟨this.1,?_⟩
 have h5:(10:Int) ^ (0+l.length)<=100000:=by
  have:l.length<=5:=hl
  generalize l.length=m at*
  match m,this with
  | 0,_=>decide
  | 1,_=>decide
  | 2,_=>decide
  | 3,_=>decide
  | 4,_=>decide
  | 5,_=>decide
 omega
theorem span_all (p:Int->Bool)(l:List UInt8):∀c∈l.take (span p l),p c.toNat=true:=by
 induction l with
 | nil=>intro c hc;simp at hc
 | cons a l ih=>
  unfold span
  split
  ·rename_i h
   intro c hc
   rw[List.take_succ_cons] at hc
   rcases List.mem_cons.1 hc with rfl | hc
   ·exact h
   ·exact ih c hc
  ·intro c hc;simp at hc
theorem tok_num (l:List UInt8)(i:Nat)(hi:i<l.length)(h:(tend l i).2=49):0<=num (tok l i).s/\num (tok l i).s<=99999:=by
 have hs:(tok l i).s=(l.drop i).take ((tend l i).1 - i):=by unfold tok;rw[h];rfl
 rw[hs]
 unfold tend at h ⊢
 split at h
 ·simp at h
 ·rename_i h1
  rw[if_neg h1]
  split at h
  ·rename_i h2
   rw[if_pos h2]
   split at h
   ·simp at h
   ·rename_i h3
    rw[if_neg h3]
    simp only
    rw[List.drop_eq_getElem_cons hi,show i+1+span digitI (l.drop (i+1)) - i=span digitI (l.drop (i+1))+1 by omega,List.take_succ_cons]
    have aa:(l[i] :: (l.drop (i+1)).take (span digitI (l.drop (i+1)))).length<=5:=by
     rw[zoF,List.length_take];omega
    refine num_le _ ?_ aa
    intro c hc
    rcases List.mem_cons.1 hc with rfl | hc
    ·unfold at0 at h2;rw[List.getD_eq_getElem?_getD,xo hi] at h2;exact h2
    ·exact span_all _ _ c hc
  ·split at h
   ·split at h <;> simp at h
   ·split at h <;> simp at h
theorem tok_len (l:List UInt8)(i:Nat):(tok l i).s.length<=l.length:=by
 unfold tok;simp only
 split <;> (rw[List.length_take,List.length_drop];omega)
theorem toksGo_ok (l:List UInt8):∀(n i:Nat),l.length+1 - i<=n->i<=l.length->
  0<(toksGo n l i).length/\(toksGo n l i).length<=l.length+1 - i/\
  (∀(k:Nat) (t:Tok),(toksGo n l i)[k]?=some t->t.k≠0->t.k≠120->k+1<(toksGo n l i).length)/\
  (∀(k:Nat) (t:Tok),(toksGo n l i)[k]?=some t->t.s.length<=l.length/\(t.k=49->0<=num t.s/\num t.s<=99999)):=by
 intro n
 induction n with
 | zero=>intro i h1 h2;omega
 | succ n ih=>
  intro i h1 h2
  by_cases hi:i<l.length
  ·by_cases hb:at0 l i=32\/at0 l i=10
   ·rw[toksGo_blank hi hb]
    obtain⟨a,b,c,d⟩:=ih (i+1) (by omega) (by omega)
    exact⟨a,by omega,c,d⟩
   ·have bd:=tend_bd l i hi
    by_cases hk:(tend l i).2=120
    ·rw[toksGo_bad hi hb hk]
     refine⟨by simp,by simp;omega,?_,?_⟩
     ·intro k t ht _ aa
      match k with
      | 0=>simp at ht;subst ht;exact absurd hk aa
      | k+1=>simp at ht
     ·intro k t ht
      match k with
      | 0=>simp at ht;subst ht;exact⟨tok_len l i,fun h=>tok_num l i hi h⟩
      | k+1=>simp at ht
    ·rw[toksGo_good hi hb hk]
     obtain⟨a,b,c,d⟩:=ih (tend l i).1 (by omega) bd.2.1
     refine⟨by simp,by rw[zoF];omega,?_,?_⟩
     ·intro k t ht h0 aa
      rw[zoF]
      match k with
      | 0=>omega
      | k+1=>
       rw[List.getElem?_cons_succ] at ht
       have:=c k t ht h0 aa
       omega
     ·intro k t ht
      match k with
      | 0=>simp at ht;subst ht;exact⟨tok_len l i,fun h=>tok_num l i hi h⟩
      | k+1=>rw[List.getElem?_cons_succ] at ht;exact d k t ht
  ·rw[toksGo_end hi]
   refine⟨by simp,by simp;omega,?_,?_⟩
   ·intro k t ht h0 _
    match k with
    | 0=>simp at ht;subst ht;exact absurd rfl h0
    | k+1=>simp at ht
   ·intro k t ht
    match k with
    | 0=>simp at ht;subst ht;exact⟨by simp,fun h=>by simp at h⟩
    | k+1=>simp at ht
theorem toks_ok (l:List UInt8)(h:l.length<=3000):Ok (toks l)/\0<(toks l).length:=by
 obtain⟨a,b,c,d⟩:=toksGo_ok l (l.length+1) 0 (by omega) (by omega)
 refine⟨⟨c,?_,fun k t ht=>?_,fun k t ht hk=>(d k t ht).2 hk⟩,a⟩
 ·unfold toks;omega
 ·have:=(d k t ht).1;omega
end R
end Go.Proofs.YtfocdefchbnkpaaGreatDoor
