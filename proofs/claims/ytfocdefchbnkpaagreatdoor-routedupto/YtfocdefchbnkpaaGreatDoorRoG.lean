/- Routes, as the program lays them: the paths of rules into a trie, and the trie flat. -/
import Derived.Test.YtfocdefchbnkpaaGreatDoorAli
import Derived.Test.YtfocdefchbnkpaaGreatDoorRoC
import Derived.Test.YtfocdefchbnkpaaGreatDoorRefJ
import Derived.Maps.Keyed
import Derived.DeepKeys4
import Derived.Maps.Own
import Derived.Shelf.Strings.Prefix
import Derived.Shelf.Sort.Plain
import Derived.Shelf.Slices.In.SortNone
import Derived.Ground.NamesProg
import Derived.Test.YtfocdefchbnkpaaGreatDoorProg
set_option maxRecDepth 100000
set_option maxHeartbeats 20000000
namespace Go.Proofs.YtfocdefchbnkpaaGreatDoor
open Go.RowKit
def Tr.insert (ns:List Tr.Nd)(k:Nat)(p:List UInt8):List Tr.Nd:=Tr.put (Tr.grow ns 0 p).1 (Tr.grow ns 0 p).2 k
def Tr.built (ps:List (List UInt8)):Nat->List Tr.Nd
 | 0=>[⟨[],[]⟩]
 | j+1=>Tr.insert (Tr.built ps j) j (ps.getD j [])
def Tr.flat (ps:List (List UInt8)):List Tr.Ins:=Tr.lay (Tr.built ps ps.length) (Tr.built ps ps.length).length 0 []
def Tr.prog (ps:List (List UInt8)):List Tr.Ins:=Tr.aimAll (Tr.flat ps)
theorem Tr.built_ok {ps : List (List UInt8)} {M : Nat} (hp : ∀ p ∈ ps, p.length ≤ M) (j : Nat) : Tr.Ok (Tr.built ps j) ∧ 0 < (Tr.built ps j).length ∧ (Tr.built ps j).length ≤ 1 + j * M ∧ Tr.Bd (Tr.built ps j) (j * (M + 1)) := by
  have hd : ∀ j, (ps.getD j []).length ≤ M := fun j => by
    rw [List.getD_eq_getElem?_getD]
    by_cases h : j < ps.length
    · rw [qN h]; exact hp _ (List.getElem_mem h)
    · rw [List.getElem?_eq_none (by omega)]; exact zl _
  induction j with
  | zero =>
    refine ⟨fun i n hi x hx => ?_, Nat.one_pos, by show 1 ≤ _; omega, fun i n hi => ?_⟩
    · match i with
      | 0 => have e : (⟨[], []⟩ : Tr.Nd) = n := by simpa [Tr.built] using hi
             subst e; simp at hx
      | i + 1 => simp [Tr.built] at hi
    · match i with
      | 0 => have e : (⟨[], []⟩ : Tr.Nd) = n := by simpa [Tr.built] using hi
             subst e; simp
      | i + 1 => simp [Tr.built] at hi
  | succ j ih =>
    obtain ⟨h1, h2, h3, h4⟩ := ih
    obtain ⟨o1, o2, o3, o4, o5⟩ := Tr.grow_ok (ps.getD j []) h1 h2 h4
    have hj := hd j
    have e : Tr.built ps (j + 1) = Tr.put (Tr.grow (Tr.built ps j) 0 (ps.getD j [])).1 (Tr.grow (Tr.built ps j) 0 (ps.getD j [])).2 j := rfl
    rw [e]
    have q := Tr.put_ok o1 (Tr.grow (Tr.built ps j) 0 (ps.getD j [])).2 j
    have a1 : (j + 1) * M = j * M + M := by rw [Nat.add_mul, Nat.one_mul]
    have a2 : (j + 1) * (M + 1) = j * (M + 1) + (M + 1) := by rw [Nat.add_mul, Nat.one_mul]
    exact ⟨q.1, by rw [q.2]; omega, by rw [q.2]; omega, (Tr.put_bd o5 _ _).mono (by omega)⟩
theorem Tr.prog_len (ps:List (List UInt8)):(Tr.prog ps).length=(Tr.flat ps).length:=by unfold Tr.prog Tr.aimAll;rw[qw]
theorem Tr.ruCells_snoc (l:List Nat)(k:Nat):Tr.ruCells (l++[k])=Tr.ruCells l++[.int .i64 (k:Int)]:=by unfold Tr.ruCells;rw[xy];rfl
theorem tX {w:World}{v:Value}{rs:List P.Rl}(hr:PRulesRow w 0 v rs)(hn:rs.length<=1000)(hp:∀r∈rs,r.path.length<=50)(hf:(Tr.flat (rs.map (·.path))).length<=10000000) :
  Calls Tryz.prog 77 #[v] w fun e w'=>∃a k,e = .returned (.slice a (Tr.prog (rs.map (·.path))).length k)/\Rw w w' 297 4 a k (Tr.prog (rs.map (·.path))).length (Tr.insCells (Tr.prog (rs.map (·.path)))):=by
 obtain⟨aY,ay,aI⟩:=hr
 obtain⟨ra,rk,rfl⟩:=zP ay
 obtain⟨i0,a2,a5,a6,a7⟩:=info_parts zeL
 have aM:∀p∈rs.map (·.path),p.length<=50:=fun p hp'=>by obtain⟨r,h1,rfl⟩:=List.mem_map.1 hp';exact hp r h1
 have af:=hid (Tr.built_ok aM)
 have aq:=hid ay
 have aA:=hid aI
 have ap:=hid hp
 have gN:=zJ w (.cells #[.slice none 0 0,.slice none 0 0] 230) none
 have HZ:Y (Ar w (w.alloc (.cells #[.slice none 0 0,.slice none 0 0] 230)) ([w.heap.size]++[]) (Tr.built (rs.map (·.path)) 0)):=by
  have h0:Ar w w [] []:=⟨zM _ _,rfl,fun i b h=>by simp at h,fun i j b b' _ h=>by simp at h⟩
  exact h0.new (fun i n h=>by simp at h)
 have al:Y (∀(j:Nat) (hj:j<rs.length) wr ex,Ar w wr ([w.heap.size]++ex) (Tr.built (rs.map (·.path)) j)->Calls Tryz.prog 116 #[.pointer (some ⟨w.heap.size,0,none⟩),.string (R.str rs[j].path)] wr fun e w'=>∃ab b',e = .returned (.pointer (some ⟨b',0,none⟩))/\Y (Ar w w' ([w.heap.size]++ab) (Tr.grow (Tr.built (rs.map (·.path)) j) 0 rs[j].path).1)/\Y (([w.heap.size]++ab)[(Tr.grow (Tr.built (rs.map (·.path)) j) 0 rs[j].path).2]?=some b')):=fun j hj wr ex hA=>by
  obtain⟨o1,o2,o3,o4⟩:=af.o j
  have a4:=ap.o rs[j] (List.getElem_mem hj)
  have hc:=zlF hA o1 o4 (by have:j*(50+1)<=1000*51:=Nat.mul_le_mul (by omega) (zZ _);omega) (i:=0) (b:=w.heap.size) rfl (R.str rs[j].path) (by rw[R.str_size];omega)
  rw[R.str_toList] at hc
  refine hc.mono ?_
  rintro e w' ⟨ab,b',q1,q2,q3⟩
  rw[xY] at q2 q3
  exact⟨ex++ab,b',q1,q2,q3⟩
 have ar:Y (∀(j:Nat) (hj:j<rs.length),Tr.put (Tr.grow (Tr.built (rs.map (·.path)) j) 0 rs[j].path).1 (Tr.grow (Tr.built (rs.map (·.path)) j) 0 rs[j].path).2 j=Tr.built (rs.map (·.path)) (j+1)):=fun j hj=>by
  have e:(rs.map (·.path)).getD j []=rs[j].path:=by rw[List.getD_eq_getElem?_getD,List.getElem?_map,qN hj];rfl
  show _=Tr.insert _ _ _
  rw[e];rfl
 have ak:Y (∀(j:Nat) (hj:j<rs.length) (n:Tr.Nd) i,(Tr.grow (Tr.built (rs.map (·.path)) j) 0 rs[j].path).1[i]?=some n->n.rules.length<=1000000):=fun j hj n i hi=>by
  obtain⟨o1,o2,o3,o4⟩:=af.o j
  have a4:=ap.o rs[j] (List.getElem_mem hj)
  obtain⟨_,_,_,_,o5⟩:=Tr.grow_ok rs[j].path o1 o2 o4
  have:=(o5 i n hi).2
  have:j*(50+1)<=1000*51:=Nat.mul_le_mul (by omega) (zZ _)
  omega
 have an:Y (∀wr ex,Ar w wr ([w.heap.size]++ex) (Tr.built (rs.map (·.path)) rs.length)->Calls Tryz.prog 117 #[.pointer (some ⟨w.heap.size,0,none⟩),.slice none 0 0] wr fun e w'=>∃a' k',e = .returned (.slice a' (Tr.flat (rs.map (·.path))).length k')/\Y (Rw w w' 297 4 a' k' (Tr.flat (rs.map (·.path))).length (Tr.insCells (Tr.flat (rs.map (·.path)))))):=fun wr ex hA=>by
  obtain⟨o1,o2,o3,o4⟩:=af.o rs.length
  have aZ:=hA.gr
  have ef:Tr.flat (rs.map (·.path))=Tr.lay (Tr.built (rs.map (·.path)) rs.length) (Tr.built (rs.map (·.path)) rs.length).length 0 []:=by unfold Tr.flat;rw[qw]
  rw[ef] at hf ⊢
  have hc:=znO o1 o4 (by have:rs.length*(50+1)<=1000*51:=Nat.mul_le_mul (by omega) (zZ _);omega) (Tr.built (rs.map (·.path)) rs.length).length hA (i:=0) (b:=w.heap.size) rfl (by omega) (p:=[]) (a:=none) (k:=0) ⟨xS _ _ _ _,aZ⟩ hf
  refine hc.mono ?_
  rintro e w' ⟨a',k',q1,q2⟩
  exact⟨a',k',q1,q2.row⟩
 have ai:Y (∀wr a' k',Rw w wr 297 4 a' k' (Tr.flat (rs.map (·.path))).length (Tr.insCells (Tr.flat (rs.map (·.path))))->Calls Tryz.prog 118 #[.slice a' (Tr.flat (rs.map (·.path))).length k'] wr fun e w'=>e = .returned (.tuple #[])/\Y (Rw w w' 297 4 a' k' (Tr.flat (rs.map (·.path))).length (Tr.insCells (Tr.prog (rs.map (·.path)))))):=fun wr a' k' hR=>znM hR (by omega)
 have aC:=hid (Tr.prog_len (rs.map (·.path)))
 clear ay aI hp aM hf gN
 generalize rs.map (·.path)=ps at*
 go_enter Tryz.func77,Tryz.ntmps77
 go_wp2_with fail
 go_loopw [10] (fun iv wr=>∃j:Nat,j<=rs.length/\iv = .int .i64 j/\∃ex,Y (Ar w wr ([w.heap.size]++ex) (Tr.built ps j))) (fun iv _=>rs.length - (intOf iv).toNat)
 case atStart=>exact⟨0,zl _,rfl,[],HZ⟩
 case round=>
  obtain⟨j,a9,rfl,ex,HW⟩:=hrel
  clear HZ
  by_cases ag:j<rs.length
  ·have a8:(j:Int)<rs.length:=by omega
   obtain⟨g,gc,e1,_,_⟩:=World.ownsRow.form aq.o (by omega)
   simp only[qc,true_and] at e1
   obtain⟨rfl,rfl⟩:=e1
   obtain⟨cs,a1,av⟩:=ku aA.o j ag
   obtain⟨vM,vT,vS,vD,aK,m1,m2,m3,m4⟩:=a1
   obtain⟨ma,mk,rfl⟩:=zP m1
   obtain⟨ta,tk,rfl⟩:=zP m2
   obtain⟨sa,sk,rfl⟩:=zP m3
   obtain⟨da,dk,rfl⟩:=zP m4
   have gw:=HW.o.gr
   have aa:∀i,i<7->wr.cell? ⟨g,j*7+i,none⟩=cs[i]?:=fun i hi=>by
    have hx:∃u,aY.flatten[j*7+i]?=some u:=by
     rw[av i hi,aK]
     match i,hi with
     | 0,_=>exact⟨_,rfl⟩
     | 1,_=>exact⟨_,rfl⟩
     | 2,_=>exact⟨_,rfl⟩
     | 3,_=>exact⟨_,rfl⟩
     | 4,_=>exact⟨_,rfl⟩
     | 5,_=>exact⟨_,rfl⟩
     | 6,_=>exact⟨_,rfl⟩
    obtain⟨u,hu⟩:=hx
    have h0:w.cell? ⟨g,j*7+i,none⟩=some u:=(xd aq.o (j*7+i) (by omega)).trans hu
    rw[gw.cell (a:=⟨g,j*7+i,none⟩) h0 (by simp),<-hu,av i hi]
   subst aK
   have HG:=hid (al.o j ag)
   have HS:=hid (ar.o j ag)
   have HB:=hid (ak.o j ag)
   generalize rs[j]=r at*
   have d0:wr.cell? ⟨g,j*7,none⟩=some (.int .i64 r.number):=aa 0 (by omega)
   have d1:wr.cell? ⟨g,j*7+1,none⟩=some (.string (R.str r.path)):=aa 1 (by omega)
   have d2:wr.cell? ⟨g,j*7+2,none⟩=some (.slice ma r.ms.length mk):=aa 2 (by omega)
   have d3:wr.cell? ⟨g,j*7+3,none⟩=some (.slice ta r.tg.length tk):=aa 3 (by omega)
   have d4:wr.cell? ⟨g,j*7+4,none⟩=some (.string (R.str r.rep)):=aa 4 (by omega)
   have d5:wr.cell? ⟨g,j*7+5,none⟩=some (.slice sa r.sets.length sk):=aa 5 (by omega)
   have d6:wr.cell? ⟨g,j*7+6,none⟩=some (.slice da r.drops.length dk):=aa 6 (by omega)
   have GA:=zJ wr (.cells #[.int .i64 r.number,.string (R.str r.path),.slice ma r.ms.length mk,.slice ta r.tg.length tk,.string (R.str r.rep),.slice sa r.sets.length sk,.slice da r.drops.length dk] 213) none
   have aB:=hid (heap_alloc_new wr (.cells #[.int .i64 r.number,.string (R.str r.path),.slice ma r.ms.length mk,.slice ta r.tg.length tk,.string (R.str r.rep),.slice sa r.sets.length sk,.slice da r.drops.length dk] 213))
   have b1:(wr.alloc (.cells #[.int .i64 r.number,.string (R.str r.path),.slice ma r.ms.length mk,.slice ta r.tg.length tk,.string (R.str r.rep),.slice sa r.sets.length sk,.slice da r.drops.length dk] 213)).cell? ⟨wr.heap.size,1,none⟩=some (.string (R.str r.path)):=z8 aB.o
   have aG:=hid (HW.o.grown GA)
   clear al ar ak an ai aa av gw GA HW aB m1 m2 m3 m4
   go_upto_region 5 with fail
   generalize wr.alloc (.cells #[.int .i64 r.number,.string (R.str r.path),.slice ma r.ms.length mk,.slice ta r.tg.length tk,.string (R.str r.rep),.slice sa r.sets.length sk,.slice da r.drops.length dk] 213)=wa at*
   have HC:=hid (HG.o wa ex aG.o)
   clear HG d0 d1 d2 d3 d4 d5 d6 aG
   generalize Tr.grow (Tr.built ps j) 0 r.path=gg at*
   go_wp2_with fail
   refine HC.o.mono ?_
   rintro e w3 ⟨ab,b',rfl,ah,am⟩
   clear HC b1
   obtain⟨n,ax,hN⟩:=ah.o.here _ b' am.o
   obtain⟨vr,vb,h1,h2,h3⟩:=hN.ex
   obtain⟨va,vk,rfl⟩:=zP h2
   have ba:=HB.o n _ ax
   have gX:=zJ w3 (.cells #[.int .i64 (j:Int)] 3) none
   have az:=hid (ah.o.grown gX)
   have ad:=hid (zB h1 gX (by simp))
   have aF:=hid (zO h3 gX (fun k hk c=>by cases c))
   have ao:=hid (zO h2 gX (fun k hk c=>by cases c))
   have aT:Y (∀q u,([.int .i64 (j:Int)]:List Value)[q]?=some u->(w3.alloc (.cells #[.int .i64 (j:Int)] 3)).cell? ((⟨w3.heap.size,0,none⟩:Addr).add q)=some u):=qI w3 #[_] _ _ rfl
   have aN:Y (∀u∈([.int .i64 (j:Int)]:List Value),u.oneCell'=true):=fun u hu=>by simp at hu;subst hu;rfl
   have aS:Y (n.rules.length+1<=maxLen):=by show _<=_;unfold maxLen;omega
   have aX:Y ((n.rules.length+1)*8<=140737488355328):=by show _<=_;omega
   have aH:Y ((w3.alloc (.cells #[.int .i64 (j:Int)] 3)).heap.size=w3.heap.size+1):=by show _=_;simp
   have aO:Y (w.heap.size<=(w3.alloc (.cells #[.int .i64 (j:Int)] 3)).heap.size):=az.o.gr.size
   have aj:=hid (zV ad.o ao.o (by decide))
   have kX:(w3.alloc (.cells #[.int .i64 (j:Int)] 3)).cell? ⟨b',0,none⟩=some (.slice va n.rules.length vk):=z8 ad.o
   have k0:w3.cell? ⟨b',0,none⟩=some (.slice va n.rules.length vk):=z8 h1
   have a0:=zE ad.o
   have a3:=hN.low
   have aP:Y (Tr.built ps (j+1)=gg.1.set gg.2 ⟨n.rules++[j],n.br⟩):=by show _=_;rw[<-HS.o];unfold Tr.put;rw[ax]
   have aQ:Y (∀g9 ae w9,w9.ownsRow w.heap.size 3 1 (.slice (some ⟨g9,0,none⟩) (n.rules.length+1) ae) (n.rules.length+1) (Tr.ruCells n.rules++[.int .i64 (j:Int)])->(w3.alloc (.cells #[.int .i64 (j:Int)] 3)).grownBy w9 (Value.slice va n.rules.length vk).ownBlock->((Value.slice va n.rules.length vk).ownBlock=some g9\/g9=w3.heap.size+1)->Ar w (w9.setCell ⟨b',0,none⟩ (.slice (some ⟨g9,0,none⟩) (n.rules.length+1) ae)) ([w.heap.size]++ab) (Tr.built ps (j+1))):=fun g9 ae w9 ho hg hat=>by
    have au:=qM ad.o hg aj.o
    have gs:=zD w9 b' 0 (.slice (some ⟨g9,0,none⟩) (n.rules.length+1) ae)
    have r9:=zO aF.o hg (xW ao.o aF.o (by decide))
    rw[aP.o]
    refine az.o.set am.o (HMv.append kX a0 hg aj.o (by rcases hat with h | h;exact Or.inl h;exact Or.inr (by rw[h,aH.o]))) ⟨⟨_,vb,zF (i:=0) au _,?_,zS r9 gs (zV au r9 (by decide))⟩,a3⟩
    have:=zS ho gs (zV au ho (by decide))
    show World.ownsRow _ _ _ _ _ (n.rules++[j]).length (Tr.ruCells (n.rules++[j]))
    rw[Tr.ruCells_snoc,zW]
    exact this
   clear gX h1 h2 h3 ax hN ah HS HB am
   go_wp2_with (at_builtin;refine wpList_append_lies _ rfl (.tmp 22) (.tmp 24) 55 rfl w.heap.size 3 i0 _ 1 8 Tryz.underlying55 a2 a5 a6 a7 rfl (by decide) _ _ _ rfl ao.o ⟨w3.heap.size,0,none⟩ 1 1 [.int .i64 (j:Int)] rfl rfl aT.o aN.o (by decide) aS.o aX.o aO.o (w3.heap.size+1) aH.o ?_)
   intro g9 ae w9 aL aw aJ _
   have aU:=hid aL
   have aR:=hid aw
   have aW:=hid aJ
   have aD:=hid (qM ad.o aw aj.o)
   have q9:w9.cell? ⟨b',0,none⟩=some (.slice va n.rules.length vk):=z8 aD.o
   have f9:=zrB 0 aD.o
   clear aL aw aJ
   go_wp2_with fail
   go_roundw
   case rel=>exact⟨j+1,by omega,by go_num,ab,aQ.o _ _ _ aU.o aR.o aW.o⟩
   case measure=>simp[intOf];omega
  ·have hE:j=rs.length:=by omega
   subst hE
   have HL:=hid (an.o wr ex HW.o)
   clear al ar ak an HW aq aA af ap
   generalize Tr.flat ps=fl at*
   go_wp2_with fail
   refine HL.o.mono ?_
   rintro e w2 ⟨a',k',rfl,aE⟩
   have HC:=hid (ai.o w2 a' k' aE.o)
   clear HL ai aE
   go_wp2_with fail
   refine HC.o.mono ?_
   rintro e w3 ⟨rfl,aV⟩
   clear HC
   go_wp2
   go_ret
   exact⟨a',k',by rw[aC.o];rfl,by rw[aC.o];exact aV.o⟩
def Tr.mach (p:List Tr.Ins)(path:List UInt8):Nat->Nat->Nat->List Nat->List Nat
 | 0,_,_,acc=>acc
 | f+1,at_,here,acc=>
  match p[here]? with
  | none=>acc
  | some x=>
   if x.kind=0 then Tr.mach p path f at_ (here+1) (acc++[x.rule])
   else if x.kind=1/\path[at_]?=some x.on then Tr.mach p path f (at_+1) (here+1) acc
   else Tr.mach p path f at_ x.dst acc
def Tr.run (p:List Tr.Ins)(path:List UInt8):List Nat:=Tr.mach p path p.length 0 0 []
def Tr.Fwd (p:List Tr.Ins):Prop:=∀(i:Nat) x,p[i]?=some x->x.kind<=2/\(x.kind≠0->i<x.dst)
def Tr.fwd (p:List Tr.Ins):Bool:=(List.range p.length).all fun i=>match p[i]? with | none=>true | some x=>decide (x.kind<=2) && (decide (x.kind=0) || decide (i<x.dst))
theorem Tr.fwd_ok {p:List Tr.Ins}(h:Tr.fwd p=true):Tr.Fwd p:=fun i x hi=>by
 unfold Tr.fwd at h
 have h1:=List.all_eq_true.1 h i (List.mem_range.2 (List.getElem?_eq_some_iff.1 hi).1)
 rw[hi] at h1
 simp only[Bool.and_eq_true,Bool.or_eq_true,decide_eq_true_eq] at h1
 exact⟨h1.1,fun hk=>by rcases h1.2 with h2 | h2;exact absurd h2 hk;exact h2⟩
theorem Tr.mach_end {p:List Tr.Ins}{path:List UInt8}{f a h:Nat}{aa:List Nat}(hh:p.length<=h):Tr.mach p path f a h aa=aa:=by
 cases f with
 | zero=>rfl
 | succ f=>unfold Tr.mach;rw[List.getElem?_eq_none hh]
theorem Tr.mach_note {p:List Tr.Ins}{path:List UInt8}{f a h:Nat}{aa:List Nat}{x:Tr.Ins}(hx:p[h]?=some x)(hk:x.kind=0):Tr.mach p path (f+1) a h aa=Tr.mach p path f a (h+1) (aa++[x.rule]):=by
 rw[Tr.mach,hx];simp only[if_pos hk]
theorem Tr.mach_step {p:List Tr.Ins}{path:List UInt8}{f a h:Nat}{aa:List Nat}{x:Tr.Ins}(hx:p[h]?=some x)(hk:x.kind=1)(ha:path[a]?=some x.on):Tr.mach p path (f+1) a h aa=Tr.mach p path f (a+1) (h+1) aa:=by
 rw[Tr.mach,hx];simp only[if_neg (show ¬x.kind=0 by omega),if_pos (And.intro hk ha)]
theorem Tr.mach_jump {p:List Tr.Ins}{path:List UInt8}{f a h:Nat}{aa:List Nat}{x:Tr.Ins}(hx:p[h]?=some x)(hk:x.kind≠0)(ha:¬(x.kind=1/\path[a]?=some x.on)):Tr.mach p path (f+1) a h aa=Tr.mach p path f a x.dst aa:=by
 rw[Tr.mach,hx];simp only[if_neg hk,if_neg ha]
structure Mc (w wr:World) (p:List Tr.Ins) (path:List UInt8) (res:List Nat) (a:Option Addr) (k at_ here:Nat) (acc:List Nat):Prop where
 row:Rw w wr 3 1 a k acc.length (Tr.ruCells acc)
 few:acc.length<=here
 eq:∃f,p.length<=here+f/\Tr.mach p path f at_ here acc=res
theorem Mc.keep {w wr wa:World}{p:List Tr.Ins}{path:List UInt8}{ae:List Nat}{a:Option Addr}{k ab ad:Nat}{aa:List Nat}(h:Mc w wr p path ae a k ab ad aa)(g:wr.grownBy wa none):Mc w wa p path ae a k ab ad aa:=⟨h.row.keep g,h.few,h.eq⟩
theorem Mc.pos {w wr:World}{p:List Tr.Ins}{path:List UInt8}{ae:List Nat}{a:Option Addr}{k ad aa:Nat}{ab:List Nat}(h:Mc w wr p path ae a k ad aa ab)(hl:aa<p.length):∃f,p.length<=aa+(f+1)/\Tr.mach p path (f+1) ad aa ab=ae:=by
 obtain⟨f,h1,h2⟩:=h.eq
 cases f with
 | zero=>omega
 | succ f=>exact⟨f,h1,h2⟩
theorem znP {w:World}{B:Nat}{pa:Option Addr}{pk:Nat}{p:List Tr.Ins}(hr:w.ownsRow B 297 4 (.slice pa p.length pk) p.length (Tr.insCells p))(hf:Tr.Fwd p)(hl:p.length<=10000000)(s:ByteArray)(hs:s.size<=100000) :
  Calls Tryz.prog 240 #[.slice pa p.length pk,.string s] w fun e w'=>∃a k,e = .returned (.slice a (Tr.run p s.data.toList).length k)/\Rw w w' 3 1 a k (Tr.run p s.data.toList).length (Tr.ruCells (Tr.run p s.data.toList)):=by
 have HR:=hid hr
 have HF:=hid hf
 have HZ:Y (Mc w w p s.data.toList (Tr.run p s.data.toList) none 0 0 0 []):=⟨⟨xS _ _ _ _,zM _ _⟩,zZ _,p.length,by omega,rfl⟩
 clear hr hf
 generalize Tr.run p s.data.toList=res at*
 go_enter Tryz.func240,Tryz.ntmps240
 go_wp2_with fail
 go_loopw [5,6,7] (fun rv av hv wr=>∃a k ab aa ae,rv = .slice a ae.length k/\av = .int .i64 (ab:Nat)/\hv = .int .i64 (aa:Nat)/\ab<=s.size/\Y (Mc w wr p s.data.toList res a k ab aa ae)) (fun _ _ hv _=>p.length - (intOf hv).toNat)
 case atStart=>exact⟨none,0,0,0,[],rfl,rfl,rfl,zl _,HZ⟩
 case round=>
  obtain⟨a,k,ab,aa,ae,rfl,rfl,rfl,az,HW⟩:=hrel
  clear HZ
  by_cases aw:aa<p.length
  ·have aB:(aa:Int)<p.length:=by omega
   obtain⟨g,gc,e1,_,_⟩:=World.ownsRow.form HR.o (by omega)
   simp only[qc,true_and] at e1
   obtain⟨rfl,rfl⟩:=e1
   have an:p[aa]?=some p[aa]:=qN aw
   have ak:∀j,j<4->wr.cell? ⟨g,aa*4+j,none⟩=(Tr.Ins.cells p[aa])[j]?:=fun j hj=>by
    have h0:w.cell? ⟨g,aa*4+j,none⟩=(Tr.Ins.cells p[aa])[j]?:=(xd HR.o (aa*4+j) (by omega)).trans (Tr.insCells_at an j hj)
    obtain⟨u,hu⟩:∃u,(Tr.Ins.cells p[aa])[j]?=some u:=⟨_,qN (show j<4 from hj)⟩
    rw[hu] at h0 ⊢
    exact HW.o.row.gr.cell (a:=⟨g,aa*4+j,none⟩) h0 (by simp)
   obtain⟨aF,ai⟩:=HF.o aa _ an
   have HX:=hid an
   clear an
   generalize p[aa]=x at*
   have d0:wr.cell? ⟨g,aa*4,none⟩=some (.int .i64 x.kind):=ak 0 (by omega)
   have d1:wr.cell? ⟨g,aa*4+1,none⟩=some (.int .i64 x.rule):=ak 1 (by omega)
   have d2:wr.cell? ⟨g,aa*4+2,none⟩=some (.int .u8 x.on.toNat):=ak 2 (by omega)
   have d3:wr.cell? ⟨g,aa*4+3,none⟩=some (.int .i64 x.dst):=ak 3 (by omega)
   have HB:=hid (heap_alloc_new wr (.cells #[.int .i64 x.kind,.int .i64 x.rule,.int .u8 x.on.toNat,.int .i64 x.dst] 297))
   have af:=hid (HW.o.keep (zJ wr (.cells #[.int .i64 x.kind,.int .i64 x.rule,.int .u8 x.on.toNat,.int .i64 x.dst] 297) none))
   have q0:(wr.alloc (.cells #[.int .i64 x.kind,.int .i64 x.rule,.int .u8 x.on.toNat,.int .i64 x.dst] 297)).cell? ⟨wr.heap.size,0,none⟩=some (.int .i64 x.kind):=z8 HB.o
   have q1:(wr.alloc (.cells #[.int .i64 x.kind,.int .i64 x.rule,.int .u8 x.on.toNat,.int .i64 x.dst] 297)).cell? ⟨wr.heap.size,1,none⟩=some (.int .i64 x.rule):=z8 HB.o
   have q2:(wr.alloc (.cells #[.int .i64 x.kind,.int .i64 x.rule,.int .u8 x.on.toNat,.int .i64 x.dst] 297)).cell? ⟨wr.heap.size,2,none⟩=some (.int .u8 x.on.toNat):=z8 HB.o
   have q3:(wr.alloc (.cells #[.int .i64 x.kind,.int .i64 x.rule,.int .u8 x.on.toNat,.int .i64 x.dst] 297)).cell? ⟨wr.heap.size,3,none⟩=some (.int .i64 x.dst):=z8 HB.o
   clear ak HW
   go_upto_region 5 with fail
   clear d0 d1 d2 d3 HB
   generalize wr.alloc (.cells #[.int .i64 x.kind,.int .i64 x.rule,.int .u8 x.on.toNat,.int .i64 x.dst] 297)=wa at*
   generalize wr.heap.size=bb at*
   obtain⟨f,al,ad⟩:=af.o.pos aw
   by_cases am:x.kind=0
   ·have au:(x.kind:Int)=0:=by omega
    rw[Tr.mach_note HX.o am] at ad
    have HC:=hid (qI wa #[.int .i64 (x.rule:Int)] 3 _ rfl)
    have aq:=hid (af.o.row.keep (zJ wa (.cells #[.int .i64 (x.rule:Int)] 3) none))
    have aE:=af.o.few
    have ap:Y (∃f,p.length<=aa+1+f/\Tr.mach p s.data.toList f ab (aa+1) (ae++[x.rule])=res):=⟨f,by omega,ad⟩
    clear al ad HX ai
    rw[au] at q0
    go_wp2_with (at_builtin;refine @xl _ _ _ _ _ _ _ rfl _ _ 55 3 rfl _ _ _ Tryz.underlying55 zeL rfl (by decide) (by decide) _ _ _ _ rfl aq.o ⟨wa.heap.size,0,none⟩ _ [.int .i64 (x.rule:Int)] rfl rfl HC.o (fun u hu=>by simp at hu;subst hu;rfl) (by omega) ?_)
    intro a' k' w' hh
    have ah:Y (Mc w w' p s.data.toList res a' k' ab (aa+1) (ae++[x.rule])):=⟨by rw[zW,Tr.ruCells_snoc];exact hh.o,by rw[zW];show _+1<=_;omega,ap.o⟩
    have ax:Y ((ae++[x.rule]).length=ae.length+1):=by show _=_;rw[zW];rfl
    clear HC af aq q0 q1 q2 q3 hh ap
    go_wp2_with fail
    go_roundw
    case rel=>exact⟨a',k',ab,aa+1,ae++[x.rule],by rw[ax.o],rfl,by go_num,az,ah⟩
    case measure=>simp[intOf];omega
   ·have au:¬((x.kind:Int)=0):=by omega
    have aD:=ai am
    by_cases ar:x.kind=1
    ·have ao:(x.kind:Int)=1:=by omega
     by_cases ha:ab<s.size
     ·have ay:(ab:Int)<s.size:=by omega
      have ag:s.data.toList[ab]?=some s[ab]:=by
       have hk:ab<s.data.toList.length:=by simpa using ha
       rw[qN hk];rfl
      by_cases hc:s[ab]=x.on
      ·have aA:(s[ab].toNat:Int)=x.on.toNat:=by rw[hc]
       rw[Tr.mach_step HX.o ar (by rw[ag,hc])] at ad
       have ah:Y (Mc w wa p s.data.toList res a k (ab+1) (aa+1) ae):=⟨af.o.row,by have:=af.o.few;omega,f,by omega,ad⟩
       have aj:Y (∀W,wa.grownBy W none->Mc w W p s.data.toList res a k (ab+1) (aa+1) ae):=fun W hW=>ah.o.keep hW
       clear al ad HX ai af ah ag hc
       rw[ao] at q0
       go_wp2_with fail
       go_quiet (fail)
       go_wp2_with fail
       go_roundw
       case rel=>exact⟨a,k,ab+1,aa+1,ae,rfl,by go_num,by go_num,by omega,aj.o _ (vu _ _)⟩
       case measure=>simp[intOf];omega
      ·have aA:=zq7 hc
       rw[Tr.mach_jump HX.o am (fun h=>hc (by rw[ag] at h;exact qk h.2))] at ad
       have aj:Y (∀W,wa.grownBy W none->Mc w W p s.data.toList res a k ab x.dst ae):=fun W hW=>(⟨af.o.row.keep hW,by have:=af.o.few;omega,f,by omega,ad⟩)
       clear al ad HX ai af ag hc
       rw[ao] at q0
       go_wp2_with fail
       go_quiet (fail)
       go_wp2_with fail
       go_roundw
       case rel=>exact⟨a,k,ab,x.dst,ae,rfl,rfl,by go_num,by omega,aj.o _ (vu _ _)⟩
       case measure=>simp[intOf];omega
     ·have ay:¬((ab:Int)<s.size):=by omega
      have ag:s.data.toList[ab]?=none:=List.getElem?_eq_none (by rw[R.size_eq];omega)
      rw[Tr.mach_jump HX.o am (fun h=>by rw[ag] at h;cases h.2)] at ad
      have aj:Y (∀W,wa.grownBy W none->Mc w W p s.data.toList res a k ab x.dst ae):=fun W hW=>(⟨af.o.row.keep hW,by have:=af.o.few;omega,f,by omega,ad⟩)
      clear al ad HX ai af ag
      rw[ao] at q0
      go_wp2_with fail
      go_quiet (fail)
      go_wp2_with fail
      go_roundw
      case rel=>exact⟨a,k,ab,x.dst,ae,rfl,rfl,by go_num,by omega,aj.o _ (vu _ _)⟩
      case measure=>simp[intOf];omega
    ·have aC:(x.kind:Int)=2:=by omega
     rw[Tr.mach_jump HX.o am (fun h=>ar h.1)] at ad
     have ah:Y (Mc w wa p s.data.toList res a k ab x.dst ae):=⟨af.o.row,by have:=af.o.few;omega,f,by omega,ad⟩
     clear al ad HX ai af
     rw[aC] at q0
     go_wp2_with fail
     go_roundw
     case rel=>exact⟨a,k,ab,x.dst,ae,rfl,rfl,by go_num,by omega,ah⟩
     case measure=>simp[intOf];omega
  ·have aB:¬((aa:Int)<p.length):=by omega
   obtain⟨f,_,ad⟩:=HW.o.eq
   rw[Tr.mach_end (by omega)] at ad
   have HE:=hid ad
   clear ad
   go_wp2
   go_ret
   exact⟨a,k,by rw[HE.o];rfl,by rw[<-HE.o];exact HW.o.row⟩
theorem zp9:WideMaps.KeyLaw Tryz.prog 163:=deep_law (m:=3) (by omega) (by kernel_rfl) (by kernel_rfl) (by rw[Tryz.underlying163])
theorem vA:Maps.Keyed Tryz.prog 163:=Maps.Keyed.of_law zp9
abbrev HKey:=List UInt8×Bool
def keyV (k:HKey):Value:=.agg #[.string (R.str k.1),.bool k.2]
theorem zeU {a b:HKey}(h:keyV a=keyV b):a=b:=by
 unfold keyV at h
 simp only[Value.agg.injEq,Array.mk.injEq,List.cons.injEq,Value.string.injEq,Value.bool.injEq,and_true] at h
 obtain⟨h1,h2⟩:=h
 have h3:a.1=b.1:=by
  have e1:=R.str_toList a.1
  have e2:=R.str_toList b.1
  rw[<-e1,<-e2,h1]
 exact Prod.ext h3 h2
theorem zhJ (k:HKey)(hs:k.1.length<=maxLen):∃l,keyOf Tryz.prog 163 (keyV k)=some l:=by
 have h1:(Tryz.prog).keyType 163=true:=by kernel_rfl
 have hc:(Tryz.prog).cellsOf 163=2:=by kernel_rfl
 have ab:(Tryz.prog).cellsOf 9=1:=by kernel_rfl
 have aa:(Tryz.prog).cellsOf 4=1:=by kernel_rfl
 have h2:(keyV k).formed Tryz.prog 163=true:=by unfold keyV;simp[Value.formed,Tryz.underlying163,hc]
 obtain⟨d,hd⟩:∃d,(Tryz.prog).types.size=d+1:=⟨(Tryz.prog).types.size - 1,by kernel_rfl⟩
 unfold keyOf
 rw[Tryz.underlying163]
 simp only[h1,h2,Bool.and_self,if_true]
 rw[hd]
 unfold Program.keyLits
 rw[Tryz.underlying163]
 unfold keyV
 simp[Value.cells,hc,ab,aa,Program.keyLits,Tryz.underlying9,Tryz.underlying4,R.str_size,hs]
def MapAt (w:World)(b:Nat)(l:List (HKey×Value)):Prop:=∃es clock,w.heap[b]?=some (.map es clock)/\es.toList.map (fun e=>(e.key,e.val))=l.map (fun x=>(keyV x.1,x.2))
theorem MapAt.lt {w:World}{b:Nat}{l:List (HKey×Value)}(h:MapAt w b l):b<w.heap.size:=by obtain⟨_,_,h1,_⟩:=h;exact(Array.getElem?_eq_some_iff.1 h1).1
theorem MapAt.same {w w':World}{b:Nat}{l:List (HKey×Value)}(h:MapAt w b l)(e:w'.heap[b]?=w.heap[b]?):MapAt w' b l:=by
 obtain⟨es,c,h1,h2⟩:=h;exact⟨es,c,e.trans h1,h2⟩
theorem MapAt.keep {w w':World}{b:Nat}{l:List (HKey×Value)}{row:Option Nat}(h:MapAt w b l)(g:w.grownBy w' row)(hr:some b≠row):MapAt w' b l:=h.same (g.block b h.lt hr)
theorem MapAt.keys {es:Array MapEntry}{l:List (HKey×Value)}(h:es.toList.map (fun e=>(e.key,e.val))=l.map (fun x=>(keyV x.1,x.2)))(hl:∀x∈l,x.1.1.length<=maxLen):∀e∈es.toList,∃q,keyOf Tryz.prog 163 e.key=some q:=fun e he=>by
 have h1:(e.key,e.val)∈l.map (fun x=>(keyV x.1,x.2)):=by rw[<-h];exact List.mem_map.2 ⟨e,he,rfl⟩
 obtain⟨x,hx,e2⟩:=List.mem_map.1 h1
 simp only[Prod.mk.injEq] at e2
 rw[<-e2.1]
 exact zhJ x.1 (hl x hx)
theorem MapAt.look {w:World}{b:Nat}{l:List (HKey×Value)}(h:MapAt w b l)(hl:∀x∈l,x.1.1.length<=maxLen)(k:HKey)(hk:k.1.length<=maxLen) :
  ((∀x∈l,x.1≠k)/\(Instr.lookup 156 (.map (some b)) (keyV k) true).run Tryz.prog w = .ok (.tuple #[.agg #[.slice none 0 0,.slice none 0 0],.bool false]) w)\/
  ∃x∈l,x.1=k/\(Instr.lookup 156 (.map (some b)) (keyV k) true).run Tryz.prog w = .ok (.tuple #[x.2,.bool true]) w:=by
 obtain⟨es,aa,hb,he⟩:=h
 obtain⟨q,hq⟩:=zhJ k hk
 have hz:(zeroValue 161).run Tryz.prog w = .ok (.agg #[.slice none 0 0,.slice none 0 0]) w:=by kernel_rfl
 rcases vA.find w hq es.toList (MapAt.keys he hl) with ⟨h1,h2⟩ | ⟨j,e0,h1,h2,h3⟩
 ·refine Or.inl ⟨fun x hx e=>?_,?_⟩
  ·have h4:(keyV x.1,x.2)∈es.toList.map (fun e=>(e.key,e.val)):=by rw[he];exact List.mem_map.2 ⟨x,hx,rfl⟩
   obtain⟨y,hy,e2⟩:=List.mem_map.1 h4
   simp only[Prod.mk.injEq] at e2
   exact h2 y hy (e2.1.trans (by rw[e]))
  ·simp[Instr.lookup,run_underlying Tryz.underlying156,MapKept.run_getObj_map hb,vA.check w _ hq,h1,hz,Result.andThen]
 ·have h4:(e0.key,e0.val)∈l.map (fun x=>(keyV x.1,x.2)):=by rw[<-he];exact List.mem_map.2 ⟨e0,List.mem_of_getElem? h2,rfl⟩
  obtain⟨x,hx,e2⟩:=List.mem_map.1 h4
  simp only[Prod.mk.injEq] at e2
  refine Or.inr ⟨x,hx,zeU (e2.1.trans h3),?_⟩
  rw[e2.2]
  simp[Instr.lookup,run_underlying Tryz.underlying156,MapKept.run_getObj_map hb,vA.check w _ hq,h1,Result.andThen]
theorem MapAt.more {w:World}{b:Nat}{l:List (HKey×Value)}(h:MapAt w b l)(hl:∀x∈l,x.1.1.length<=maxLen)(k:HKey)(hk:k.1.length<=maxLen)(hn:∀x∈l,x.1≠k)(v:Value) :
  ∃w',(Instr.mapUpdate 156 (.map (some b)) (keyV k) v).run Tryz.prog w = .ok () w'/\MapAt w' b (l++[(k,v)])/\w.grownBy w' (some b):=by
 obtain⟨es,aa,hb,he⟩:=h
 obtain⟨q,hq⟩:=zhJ k hk
 rcases vA.find w hq es.toList (MapAt.keys he hl) with ⟨h1,h2⟩ | ⟨j,e0,h1,h2,h3⟩
 ·refine⟨ChangeMaps.setBlock w b (.map (es.push ⟨keyV k,v,aa⟩) (aa+1)),?_,⟨_,_,ChangeMaps.heap_setBlock_same hb _,?_⟩,⟨rfl,rfl,rfl,by simp[ChangeMaps.setBlock],fun i _ hi=>ChangeMaps.heap_setBlock_other hb _ (fun e=>hi (by rw[e]))⟩⟩
  ·simp[Instr.mapUpdate,run_underlying Tryz.underlying156,MapKept.run_getObj_map hb,vA.check w false hq,h1,MapKept.run_setObj_map _ hb,Result.andThen,ChangeMaps.setBlock]
  ·rw[Array.toList_push,xy,xy,he];rfl
 ·exfalso
  have h4:(e0.key,e0.val)∈l.map (fun x=>(keyV x.1,x.2)):=by rw[<-he];exact List.mem_map.2 ⟨e0,List.mem_of_getElem? h2,rfl⟩
  obtain⟨x,hx,e2⟩:=List.mem_map.1 h4
  simp only[Prod.mk.injEq] at e2
  exact hn x hx (zeU (e2.1.trans h3))
theorem zqO (n:Int)(w:World):(Instr.makeMap 156 (some (.int .i64 n))).run Tryz.prog w = .ok (.map (some w.heap.size)) (w.alloc (.map #[] 0)):=by
 simp[Instr.makeMap,run_underlying Tryz.underlying156,asInt,asIntOf,Result.andThen]
theorem MapAt.made (w:World):MapAt (w.alloc (.map #[] 0)) w.heap.size []:=⟨#[],0,heap_alloc_new w _,rfl⟩
end Go.Proofs.YtfocdefchbnkpaaGreatDoor
namespace Go.Proofs
open Go.Shelf Go.RowKit Go.Lib
def Tryz.lays206_ren : Go.Shelf.Ren := ⟨fun | 206 => 230 | n => n, fun | 9 => 9 | 4 => 4 | 3 => 3 | n => n, fun | n => n⟩
theorem Tryz.lays206 : Go.Proofs.Lays.n206 Tryz.prog Tryz.lays206_ren := {
  mixed := by kernel_rfl
  f206 := Tryz.func230.trans (congrArg some (by kernel_rfl))
  t3 := Tryz.underlying3
  a3 := Tryz.isAgg3
  z3 := Tryz.sizeOf3
  v3 := Tryz.zeroValue3
  t4 := Tryz.underlying4
  a4 := Tryz.isAgg4
  z4 := Tryz.sizeOf4
  v4 := Tryz.zeroValue4
  t9 := Tryz.underlying9
  a9 := Tryz.isAgg9
  z9 := Tryz.sizeOf9
  v9 := Tryz.zeroValue9 }
def Tryz.lays189_ren : Go.Shelf.Ren := ⟨fun | 189 => 242 | 125 => 210 | 257 => 310 | 128 => 284 | 129 => 285 | 294 => 365 | 295 => 366 | 296 => 367 | 297 => 368 | 298 => 369 | 299 => 370 | 216 => 371 | 300 => 372 | 301 => 373 | 328 => 408 | 329 => 338 | 330 => 339 | 331 => 409 | 332 => 410 | 215 => 213 | 343 => 426 | n => n, fun | 28 => 55 | 3 => 3 | 46 => 220 | 0 => 0 | 51 => 152 | 53 => 60 | 4 => 4 | 183 => 373 | 182 => 372 | 131 => 377 | 5 => 5 | 9 => 9 | 218 => 408 | 222 => 411 | 228 => 437 | 229 => 132 | n => n, fun | n => n⟩
theorem Tryz.lays189 : Go.Proofs.Lays.n189 Tryz.prog Tryz.lays189_ren := {
  mixed := by kernel_rfl
  f125 := Tryz.func210.trans (congrArg some (by kernel_rfl))
  f128 := Tryz.func284.trans (congrArg some (by kernel_rfl))
  f129 := Tryz.func285.trans (congrArg some (by kernel_rfl))
  f189 := Tryz.func242.trans (congrArg some (by kernel_rfl))
  f215 := Tryz.func213.trans (congrArg some (by kernel_rfl))
  f216 := Tryz.func371.trans (congrArg some (by kernel_rfl))
  f257 := Tryz.func310.trans (congrArg some (by kernel_rfl))
  f294 := Tryz.func365.trans (congrArg some (by kernel_rfl))
  f295 := Tryz.func366.trans (congrArg some (by kernel_rfl))
  f296 := Tryz.func367.trans (congrArg some (by kernel_rfl))
  f297 := Tryz.func368.trans (congrArg some (by kernel_rfl))
  f298 := Tryz.func369.trans (congrArg some (by kernel_rfl))
  f299 := Tryz.func370.trans (congrArg some (by kernel_rfl))
  f300 := Tryz.func372.trans (congrArg some (by kernel_rfl))
  f301 := Tryz.func373.trans (congrArg some (by kernel_rfl))
  f328 := Tryz.func408.trans (congrArg some (by kernel_rfl))
  f329 := Tryz.func338.trans (congrArg some (by kernel_rfl))
  f330 := Tryz.func339.trans (congrArg some (by kernel_rfl))
  f331 := Tryz.func409.trans (congrArg some (by kernel_rfl))
  f332 := Tryz.func410.trans (congrArg some (by kernel_rfl))
  f343 := Tryz.func426.trans (congrArg some (by kernel_rfl))
  t0 := Tryz.underlying0
  a0 := Tryz.isAgg0
  z0 := Tryz.sizeOf0
  v0 := Tryz.zeroValue0
  t3 := Tryz.underlying3
  a3 := Tryz.isAgg3
  z3 := Tryz.sizeOf3
  v3 := Tryz.zeroValue3
  t4 := Tryz.underlying4
  a4 := Tryz.isAgg4
  z4 := Tryz.sizeOf4
  v4 := Tryz.zeroValue4
  t5 := Tryz.underlying5
  a5 := Tryz.isAgg5
  z5 := Tryz.sizeOf5
  v5 := Tryz.zeroValue5
  t9 := Tryz.underlying9
  a9 := Tryz.isAgg9
  z9 := Tryz.sizeOf9
  v9 := Tryz.zeroValue9
  t28 := Tryz.underlying55
  a28 := Tryz.isAgg55
  z28 := Tryz.sizeOf55
  v28 := Tryz.zeroValue55
  t46 := Tryz.underlying220
  a46 := Tryz.isAgg220
  z46 := Tryz.sizeOf220
  v46 := Tryz.zeroValue220
  t51 := Tryz.underlying152
  a51 := Tryz.isAgg152
  z51 := Tryz.sizeOf152
  v51 := Tryz.zeroValue152
  t53 := Tryz.underlying60
  a53 := Tryz.isAgg60
  z53 := Tryz.sizeOf60
  v53 := Tryz.zeroValue60
  t131 := Tryz.underlying377
  a131 := Tryz.isAgg377
  z131 := Tryz.sizeOf377
  v131 := Tryz.zeroValue377
  t182 := Tryz.underlying372
  a182 := Tryz.isAgg372
  z182 := Tryz.sizeOf372
  v182 := Tryz.zeroValue372
  t183 := Tryz.underlying373
  a183 := Tryz.isAgg373
  z183 := Tryz.sizeOf373
  v183 := Tryz.zeroValue373
  t218 := Tryz.underlying408
  a218 := Tryz.isAgg408
  z218 := Tryz.sizeOf408
  v218 := Tryz.zeroValue408
  t222 := Tryz.underlying411
  a222 := Tryz.isAgg411
  z222 := Tryz.sizeOf411
  v222 := Tryz.zeroValue411
  t228 := Tryz.underlying437
  a228 := Tryz.isAgg437
  z228 := Tryz.sizeOf437
  v228 := Tryz.zeroValue437
  t229 := Tryz.underlying132
  a229 := Tryz.isAgg132
  z229 := Tryz.sizeOf132
  v229 := Tryz.zeroValue132 }
theorem Tryz.stringslite_HasPrefix (s p : ByteArray) (w : World) :
    Calls Tryz.prog 230 #[.string s, .string p] w fun e w' => e = .returned (.bool (Lib.hasPrefix s.data.toList p.data.toList)) ∧ w' = w := Any.stringslite_HasPrefix Tryz.lays206 s p w
theorem Tryz.slices_Sort_int (blk off cap : Nat) (zs : List Int) (w : World) (hH : Go.Sort.Holds (Value.int .i64) w blk off zs.toArray) (hblk : blk < w.heap.size) (hsz : zs.length < 4611686018427387904) :
    Calls Tryz.prog 242 #[.slice (some ⟨blk, off, none⟩) zs.length cap] w fun e w' =>
      e = .returned (.tuple #[]) ∧ ∃ n os, w' = Go.Sort.grow (Go.Sort.putRow (Value.int .i64) (Go.Sort.ahead w n) blk off (zs.mergeSort fun x y => decide (x ≤ y)).toArray) os := Any.slices_Sort_int Tryz.lays189 blk off cap zs w hH hblk hsz
end Go.Proofs
namespace Go.Proofs.YtfocdefchbnkpaaGreatDoor
open Go.RowKit
def Tr.key (l:List UInt8):HKey:=if Lib.hasPrefix l [42,46] then (l.drop 2,true) else (l,false)
theorem zhS (l:List UInt8)(h:Lib.hasPrefix l [42,46]=true):2<=l.length:=by
 match l,h with
 | [],h=>simp[Lib.hasPrefix] at h
 | [a],h=>simp[Lib.hasPrefix] at h
 | a :: b :: t,_=>simp
theorem ziA (l:List UInt8)(w:World)(hs:l.length<=1000000) :
  Calls Tryz.prog 175 #[.string (R.str l),.string ⟨#[42,46]⟩] w fun e w'=>e = .returned (.tuple #[.string (R.str (Tr.key l).1),.bool (Tr.key l).2])/\w.grownBy w' none:=by
 have hz:(R.str l).size=l.length:=R.str_size l
 have hd:(R.str l).data.toList=l:=R.str_toList l
 have HU:Y (Tr.key l=if Lib.hasPrefix l [42,46] then (l.drop 2,true) else (l,false)):=rfl
 have HS:Y (Calls Tryz.prog 230 #[.string (R.str l),.string ⟨#[42,46]⟩] w fun e w'=>e = .returned (.bool (Lib.hasPrefix l [42,46]))/\w'=w):=by
  have h:=Tryz.stringslite_HasPrefix (R.str l) ⟨#[42,46]⟩ w
  rw[R.str_toList] at h;exact h
 have hp:=zhS l
 generalize Lib.hasPrefix l [42,46]=b at*
 cases b
 ·go_enter Tryz.func175,Tryz.ntmps175
  go_wp2_with fail
  refine HS.o.mono ?_
  rintro e wX ⟨rfl,aa⟩
  rw[aa]
  clear aa wX
  go_wp2
  go_ret2
  exact⟨by rw[HU.o];rfl,zM _ _⟩
 ·have ad:=hp rfl
  have ab:(R.str l).extract 2 l.length=R.str (l.drop 2):=by
   rw[jr,hd,jS (by rw[List.length_drop];omega)]
  go_enter Tryz.func175,Tryz.ntmps175
  go_wp2_with fail
  refine HS.o.mono ?_
  rintro e wX ⟨rfl,aa⟩
  rw[aa]
  clear aa wX hp
  go_wp2
  go_ret2
  exact⟨by rw[HU.o,if_pos trivial];rfl,zM _ _⟩
theorem tQ (l:List UInt8)(w:World)(hs:l.length<=1000000) :
  Calls Tryz.prog 119 #[.string (R.str l),.string ⟨#[42,46]⟩] w fun e w'=>e = .returned (.tuple #[.string (R.str (Tr.key l).1),.bool (Tr.key l).2])/\w.grownBy w' none:=by
 have HC:=hid (ziA l w hs)
 generalize Tr.key l=x at*
 go_enter Tryz.func119,Tryz.ntmps119
 go_wp2_with fail
 refine HC.o.mono ?_
 rintro e wX ⟨rfl,hg⟩
 go_wp2
 go_ret2
 exact⟨rfl,hg⟩
theorem zaP (l:List UInt8)(w:World)(hs:l.length<=1000000) :
  Calls Tryz.prog 78 #[.string (R.str l)] w fun e w'=>e = .returned (keyV (Tr.key l))/\w.grownBy w' none:=by
 have HC:Y (∀W,Calls Tryz.prog 119 #[.string (R.str l),.string ⟨#[42,46]⟩] W fun e w'=>e = .returned (.tuple #[.string (R.str (Tr.key l).1),.bool (Tr.key l).2])/\W.grownBy w' none):=fun W=>tQ l W hs
 generalize Tr.key l=x at*
 have GA:=hid (zJ w (.cells #[.string ⟨#[]⟩,.bool false] 163) none)
 have HB:=hid (heap_alloc_new w (.cells #[.string ⟨#[]⟩,.bool false] 163))
 go_enter Tryz.func78,Tryz.ntmps78
 go_upto_region 1 with fail
 generalize w.alloc (.cells #[.string ⟨#[]⟩,.bool false] 163)=wa at*
 go_wp2_with fail
 refine(HC.o _).mono ?_
 rintro e w1 ⟨rfl,g1⟩
 have aa:=hid (zB HB.o g1 (by simp))
 have G1:=hid (zA GA.o g1)
 have c0:w1.cell? ⟨w.heap.size,0,none⟩=some (.string ⟨#[]⟩):=z8 aa.o
 have c1:w1.cell? ⟨w.heap.size,1,none⟩=some (.bool false):=z8 aa.o
 have f0:=zrB 0 aa.o
 have f1:=zrB 1 aa.o
 have ab:Y (w.grownBy ((w1.setCell ⟨w.heap.size,0,none⟩ (.string (R.str x.1))).setCell ⟨w.heap.size,1,none⟩ (.bool x.2)) none):=zY (zY G1.o (zD _ _ _ _) (zZ _)) (zD _ _ _ _) (zZ _)
 have HQ:=hid (zF (i:=1) (zF (i:=0) aa.o (.string (R.str x.1))) (.bool x.2))
 have z0:((w1.setCell ⟨w.heap.size,0,none⟩ (.string (R.str x.1))).setCell ⟨w.heap.size,1,none⟩ (.bool x.2)).cell? ⟨w.heap.size,0,none⟩=some (.string (R.str x.1)):=z8 HQ.o
 have z1:((w1.setCell ⟨w.heap.size,0,none⟩ (.string (R.str x.1))).setCell ⟨w.heap.size,1,none⟩ (.bool x.2)).cell? ⟨w.heap.size,1,none⟩=some (.bool x.2):=z8 HQ.o
 clear HC g1 GA HB aa G1 HQ
 go_wp2
 (try simp only[Exit.inBlock,Exit.then])
 refine bodyPost_ret (v:=.agg #[.string (R.str x.1),.bool x.2]) (by simp[results,Tryz.results78,go_sem,z0,z1]) rfl ?_
 exact⟨rfl,ab.o⟩
end Go.Proofs.YtfocdefchbnkpaaGreatDoor
