/- Routes, as the program lays them: the table of a policy. -/
import Derived.Test.YtfocdefchbnkpaaGreatDoorAli
import Derived.Test.YtfocdefchbnkpaaGreatDoorRoG
set_option maxRecDepth 100000
set_option maxHeartbeats 20000000
namespace Go.Proofs.YtfocdefchbnkpaaGreatDoor
open Go.RowKit
def ratags:List TypeId:=297 :: prtags
def HostV (w:World)(v:Value)(h:P.Hst):Prop:=∃ra rk pa pk,v = .agg #[.slice ra h.rules.length rk,.slice pa (Tr.prog (h.rules.map (·.path))).length pk]/\PRulesRow w 0 (.slice ra h.rules.length rk) h.rules/\w.ownsRow 0 297 4 (.slice pa (Tr.prog (h.rules.map (·.path))).length pk) (Tr.prog (h.rules.map (·.path))).length (Tr.insCells (Tr.prog (h.rules.map (·.path))))
theorem HostV.keep {w w':World}{v:Value}{h:P.Hst}{row:Option Nat}(hv:HostV w v h)(g:w.grownBy w' row)(hs:Safe w row ratags):HostV w' v h:=by
 obtain⟨ra,rk,pa,pk,e,h1,h2⟩:=hv
 exact⟨ra,rk,pa,pk,e,h1.keep g (jM hs),xE h2 g hs (by decide)⟩
structure TabM (w:World) (mb:Nat) (l:List (HKey×Value)) (hs:List P.Hst):Prop where
 map:MapAt w mb l
 all:All2 (fun x h=>x.1=Tr.key h.name/\HostV w x.2 h) l hs
theorem TabM.grown {w w':World}{mb:Nat}{l:List (HKey×Value)}{hs:List P.Hst}(h:TabM w mb l hs)(g:w.grownBy w' none):TabM w' mb l hs:=
 ⟨h.map.keep g (by simp),h.all.map fun _ _ ⟨q1,q2⟩=>⟨q1,q2.keep g (zv _ _)⟩⟩
theorem zg7 {w:World}{mb:Nat}{l:List (HKey×Value)}(h:MapAt w mb l)(ts:List TypeId):Safe w (some mb) ts:=fun k c t f hk hb=>by
 cases hk
 obtain⟨es,cl,h1,_⟩:=h
 rw[h1] at hb;cases hb
structure Fit (h:P.Hst):Prop where
 name:h.name.length<=1000
 few:h.rules.length<=1000
 path:∀r∈h.rules,r.path.length<=50
 flat:(Tr.flat (h.rules.map (·.path))).length<=10000000
 fwd:Tr.fwd (Tr.prog (h.rules.map (·.path)))=true
 notes:(Tr.prog (h.rules.map (·.path))).all (fun x=>decide (x.kind≠0) || decide (x.rule<h.rules.length))=true
structure Fits (hs:List P.Hst):Prop where
 few:hs.length<=1000
 keys:(hs.map fun h=>Tr.key h.name).Pairwise (·≠·)
 hosts:∀h∈hs,Fit h
theorem Tr.key_le (l:List UInt8):(Tr.key l).1.length<=l.length:=by
 unfold Tr.key;split
 ·rw[List.length_drop];omega
 ·exact zZ _
theorem kw {α β:Type}{R:α->β->Prop}{l:List α}{m:List β}(h:All2 R l m):∀x∈l,∃y∈m,R x y:=by
 induction h with
 | nil=>intro x hx;simp at hx
 | cons hc _ ih=>
  intro x hx
  rcases List.mem_cons.1 hx with rfl | hx
  ·exact⟨_,List.mem_cons_self,hc⟩
  ·obtain⟨y,h1,h2⟩:=ih x hx
   exact⟨y,List.mem_cons_of_mem _ h1,h2⟩
theorem zjP {α β:Type}{R:α->β->Prop}{l:List α}{m:List β}(h:All2 R l m){x:α}{y:β}(aa:R x y):All2 R (l++[x]) (m++[y]):=by
 induction h with
 | nil=>exact All2.cons aa All2.nil
 | cons hc _ ih=>exact All2.cons hc ih
theorem Fits.fresh {hs:List P.Hst}(h:Fits hs)(j:Nat)(hj:j<hs.length):∀x∈hs.take j,Tr.key x.name≠Tr.key hs[j].name:=by
 intro x hx
 have h1:=h.keys
 have e:hs=hs.take j++hs.drop j:=(List.take_append_drop j hs).symm
 rw[e,xy,List.pairwise_append] at h1
 refine h1.2.2 _ (List.mem_map.2 ⟨x,hx,rfl⟩) _ ?_
 rw[List.drop_eq_getElem_cons hj,xi]
 exact List.mem_cons_self
theorem znE {w : World} {va : Option Addr} {vc : Nat} {hs : List P.Hst} (hr : PHostsRow w 0 (.slice va hs.length vc) hs) (hf : Fits hs) :
    Calls Tryz.prog 45 #[.agg #[.slice va hs.length vc]] w fun e w' => ∃ tb mb l, e = .returned (.pointer (some ⟨tb, 0, none⟩)) ∧ w'.heap[tb]? = some (.cells #[.map (some mb)] 166 (0, 0)) ∧ TabM w' mb l hs ∧ w.grownBy w' none := by
  obtain ⟨css, hrow, hall⟩ := hr
  have HRow := hid hrow
  have HAll := hid hall
  have HFt := hid hf
  have hfew := hf.few
  have gA := zJ w (.cells #[.slice va hs.length vc] 88) none
  have gB := zJ (w.alloc (.cells #[.slice va hs.length vc] 88)) (.map #[] 0) none
  have hmm := zqO
  have HBx := hid (heap_alloc_new w (.cells #[.slice va hs.length vc] 88))
  have HBx2 := hid (zB HBx.o gB (by simp))
  have a0 : (w.alloc (.cells #[.slice va hs.length vc] 88)).cell? ⟨w.heap.size, 0, none⟩ = some (.slice va hs.length vc) := z8 HBx.o
  have a1 : ((w.alloc (.cells #[.slice va hs.length vc] 88)).alloc (.map #[] 0)).cell? ⟨w.heap.size, 0, none⟩ = some (.slice va hs.length vc) := z8 HBx2.o
  have HZ : Y (TabM ((w.alloc (.cells #[.slice va hs.length vc] 88)).alloc (.map #[] 0)) (w.heap.size + 1) [] (hs.take 0) ∧ w.grownBy ((w.alloc (.cells #[.slice va hs.length vc] 88)).alloc (.map #[] 0)) none) := by
    refine ⟨⟨?_, All2.nil⟩, zA gA gB⟩
    have := MapAt.made (w.alloc (.cells #[.slice va hs.length vc] 88))
    have e : (w.alloc (.cells #[.slice va hs.length vc] 88)).heap.size = w.heap.size + 1 := by simp
    rw [e] at this; exact this
  have HAt : Y (hs.take hs.length = hs) := List.take_length
  clear hrow hall gA gB hf
  go_enter Tryz.func45, Tryz.ntmps45
  go_wp2_with fail
  go_loopw [13] (fun iv wr => ∃ j : Nat, j ≤ hs.length ∧ iv = .int .i64 j ∧ ∃ l, Y (TabM wr (w.heap.size + 1) l (hs.take j) ∧ w.grownBy wr none)) (fun iv _ => hs.length - (intOf iv).toNat)
  case atStart => exact ⟨0, zl _, rfl, [], HZ⟩
  case round =>
    obtain ⟨j, hjl, rfl, l, HW⟩ := hrel
    clear HZ HBx HBx2 a0 a1
    by_cases hlt : j < hs.length
    · have hjI : (j : Int) < hs.length := by omega
      obtain ⟨g, gc, e1, _, _⟩ := World.ownsRow.form HRow.o (by omega)
      simp only [qc, true_and] at e1
      obtain ⟨rfl, rfl⟩ := e1
      obtain ⟨cs, hcs, hget⟩ := kv HAll.o j hlt
      obtain ⟨vR, hcse, hrr⟩ := hcs
      obtain ⟨ra, rk, rfl⟩ : ∃ a k, vR = .slice a hs[j].rules.length k := by obtain ⟨c2, r1, _⟩ := hrr; exact zP r1
      have gw := HW.o.2
      have hcell : ∀ i, i < 2 → wr.cell? ⟨g, j * 2 + i, none⟩ = cs[i]? := fun i hi => by
        have hx : ∃ u, css.flatten[j * 2 + i]? = some u := by
          rw [hget i hi, hcse]
          match i, hi with
          | 0, _ => exact ⟨_, rfl⟩
          | 1, _ => exact ⟨_, rfl⟩
        obtain ⟨u, hu⟩ := hx
        have h0 : w.cell? ⟨g, j * 2 + i, none⟩ = some u := (xd HRow.o (j * 2 + i) (by omega)).trans hu
        rw [gw.cell (a := ⟨g, j * 2 + i, none⟩) h0 (by simp), ← hu, hget i hi]
      subst hcse
      have hft := HFt.o.hosts hs[j] (List.getElem_mem hlt)
      have hfr := HFt.o.fresh j hlt
      have HT : Y (hs.take (j + 1) = hs.take j ++ [hs[j]]) := by show _ = _; rw [List.take_add_one, qN hlt]; rfl
      have HKs : Y (∀ x ∈ l, x.1.1.length ≤ maxLen) := fun x hx => by
        obtain ⟨y, h1, h2, _⟩ := kw HW.o.1.all x hx
        have h3 := (HFt.o.hosts y (List.mem_of_mem_take h1)).name
        have h4 := Tr.key_le y.name
        rw [h2]; unfold maxLen; omega
      have HNw : Y (∀ x ∈ l, x.1 ≠ Tr.key hs[j].name) := fun x hx => by
        obtain ⟨y, h1, h2, _⟩ := kw HW.o.1.all x hx
        rw [h2]; exact hfr y h1
      generalize hs[j] = x at *
      have d0 : wr.cell? ⟨g, j * 2, none⟩ = some (.string (R.str x.name)) := hcell 0 (by omega)
      have d1 : wr.cell? ⟨g, j * 2 + 1, none⟩ = some (.slice ra x.rules.length rk) := hcell 1 (by omega)
      have GA := zJ wr (.cells #[.string (R.str x.name), .slice ra x.rules.length rk] 146) none
      have HB := hid (heap_alloc_new wr (.cells #[.string (R.str x.name), .slice ra x.rules.length rk] 146))
      have HW1 := hid (And.intro (HW.o.1.grown GA) (zA HW.o.2 GA))
      clear hcell hget gw GA HW
      go_upto_region 5 with fail
      generalize wr.alloc (.cells #[.string (R.str x.name), .slice ra x.rules.length rk] 146) = wa at *
      clear d0 d1
      have x0 : wa.cell? ⟨wr.heap.size, 0, none⟩ = some (.string (R.str x.name)) := z8 HB.o
      have x1 : wa.cell? ⟨wr.heap.size, 1, none⟩ = some (.slice ra x.rules.length rk) := z8 HB.o
      have hxn := hft.name
      have HKy : Y (∀ W, Calls Tryz.prog 78 #[.string (R.str x.name)] W fun e w' => e = .returned (.agg #[.string (R.str (Tr.key x.name).1), .bool (Tr.key x.name).2]) ∧ W.grownBy w' none) := fun W => zaP x.name W (by omega)
      have HPr : Y (∀ W, w.grownBy W none → Calls Tryz.prog 77 #[.slice ra x.rules.length rk] W fun e w' => ∃ a k, e = .returned (.slice a (Tr.prog (x.rules.map (·.path))).length k) ∧ Y (Rw W w' 297 4 a k (Tr.prog (x.rules.map (·.path))).length (Tr.insCells (Tr.prog (x.rules.map (·.path)))))) := fun W hW => tX (hrr.keep hW (zv _ _)) hft.few hft.path hft.flat
      have HUp : Y (∀ W a k, wa.grownBy W none → W.ownsRow 0 297 4 (.slice a (Tr.prog (x.rules.map (·.path))).length k) (Tr.prog (x.rules.map (·.path))).length (Tr.insCells (Tr.prog (x.rules.map (·.path)))) → ∃ w', (Instr.mapUpdate 156 (.map (some (w.heap.size + 1))) (.agg #[.string (R.str (Tr.key x.name).1), .bool (Tr.key x.name).2]) (.agg #[.slice ra x.rules.length rk, .slice a (Tr.prog (x.rules.map (·.path))).length k])).run Tryz.prog W = .ok () w' ∧ Y (∃ l', TabM w' (w.heap.size + 1) l' (hs.take (j + 1)) ∧ w.grownBy w' none)) := fun W a k hW ho => by
        have t1 := HW1.o.1.grown hW
        have hkl := Tr.key_le x.name
        obtain ⟨w', q1, q2, q3⟩ := t1.map.more HKs.o (Tr.key x.name) (by unfold maxLen; omega) HNw.o (.agg #[.slice ra x.rules.length rk, .slice a (Tr.prog (x.rules.map (·.path))).length k])
        have gW := zA HW1.o.2 hW
        have hv : HostV W (.agg #[.slice ra x.rules.length rk, .slice a (Tr.prog (x.rules.map (·.path))).length k]) x := ⟨ra, rk, a, k, rfl, hrr.keep gW (zv _ _), ho⟩
        refine ⟨w', q1, _, ⟨q2, ?_⟩, zY gW q3 (by omega)⟩
        rw [HT.o]
        exact zjP (t1.all.map fun _ _ ⟨p1, p2⟩ => ⟨p1, p2.keep q3 (zg7 t1.map _)⟩) ⟨rfl, hv.keep q3 (zg7 t1.map _)⟩
      have GW := hid HW1.o.2
      clear HKs HNw HT hfr hft HW1 HRow HAll hrr HAt HFt
      generalize Tr.key x.name = ky at *
      generalize Tr.prog (x.rules.map (·.path)) = pg at *
      go_region_law (first | (go_simp; go_at_call 78; refine (HKy.o _).mono ?_; rintro e wK ⟨rfl, gK⟩; have GK := hid (zA (zQ wa) gK); have HBK := hid (zB HB.o GK.o (by simp)); have y0 : wK.cell? ⟨wr.heap.size, 0, none⟩ = some (.string (R.str x.name)) := z8 HBK.o; have y1 : wK.cell? ⟨wr.heap.size, 1, none⟩ = some (.slice ra x.rules.length rk) := z8 HBK.o; clear gK) | (go_simp; go_at_call 77; refine (HPr.o _ (zA GW.o GK.o)).mono ?_; rintro e wP ⟨a, k, rfl, RP⟩; have GP := hid (zA GK.o RP.o.gr); have HBP := hid (zB HB.o GP.o (by simp)); have z0 : wP.cell? ⟨wr.heap.size, 0, none⟩ = some (.string (R.str x.name)) := z8 HBP.o; have z1 : wP.cell? ⟨wr.heap.size, 1, none⟩ = some (.slice ra x.rules.length rk) := z8 HBP.o; obtain ⟨wU, hU, HU⟩ := HUp.o wP a k GP.o (qK RP.o.own (zl _))))
      all_goals
        obtain ⟨l', h1, h2⟩ := HU.o
        have HW2 := hid (And.intro h1 h2)
        clear HU h1 h2 HKy HPr HUp
        go_wp2_with fail
        go_roundw
        case rel => exact ⟨j + 1, by omega, by go_num, l', HW2⟩
        case measure => simp [intOf]; omega
    · have hE : j = hs.length := by omega
      subst hE
      rw [HAt.o] at HW
      have gA := zJ wr (.cells #[.map (some (w.heap.size + 1))] 166) none
      have HEnd := hid (And.intro (heap_alloc_new wr (.cells #[.map (some (w.heap.size + 1))] 166)) (And.intro (HW.o.1.grown gA) (zA HW.o.2 gA)))
      clear HW gA
      go_wp2
      go_ret
      exact ⟨_, _, l, rfl, HEnd.o.1, HEnd.o.2.1, HEnd.o.2.2⟩
def Tr.ins1 (x:Nat):List Nat->List Nat
 | []=>[x]
 | y :: t=>if x<=y then x :: y :: t else y :: Tr.ins1 x t
def Tr.isort:List Nat->List Nat
 | []=>[]
 | x :: t=>Tr.ins1 x (Tr.isort t)
theorem Tr.ins1_perm (x:Nat)(l:List Nat):(Tr.ins1 x l).Perm (x :: l):=by
 induction l with
 | nil=>exact List.Perm.refl _
 | cons y t ih=>
  unfold Tr.ins1;split
  ·exact List.Perm.refl _
  ·exact(List.Perm.cons y ih).trans (List.Perm.swap x y t)
theorem Tr.isort_perm (l:List Nat):(Tr.isort l).Perm l:=by
 induction l with
 | nil=>exact List.Perm.refl _
 | cons x t ih=>exact(Tr.ins1_perm x _).trans (List.Perm.cons x ih)
theorem Tr.ins1_sorted (x:Nat)(l:List Nat)(h:l.Pairwise (·<=·)):(Tr.ins1 x l).Pairwise (·<=·):=by
 induction l with
 | nil=>simp[Tr.ins1]
 | cons y t ih=>
  obtain⟨h1,h2⟩:=List.pairwise_cons.1 h
  unfold Tr.ins1;split
  ·rename_i hxy
   exact List.pairwise_cons.2 ⟨fun z hz=>by rcases List.mem_cons.1 hz with rfl | hz;exact hxy;exact zp hxy (h1 z hz),h⟩
  ·rename_i hxy
   refine List.pairwise_cons.2 ⟨fun z hz=>?_,ih h2⟩
   rcases List.mem_cons.1 ((Tr.ins1_perm x t).mem_iff.1 hz) with rfl | hz
   ·omega
   ·exact h1 z hz
theorem Tr.isort_sorted (l:List Nat):(Tr.isort l).Pairwise (·<=·):=by
 induction l with
 | nil=>simp[Tr.isort]
 | cons x t ih=>exact Tr.ins1_sorted x _ ih
theorem kR:∀(a b:List Int),a.Perm b->a.Pairwise (·<=·)->b.Pairwise (·<=·)->a=b
 | [],b,h,_,_=>(List.Perm.nil_eq h)
 | x :: a,[],h,_,_=>by have:=h.length_eq;simp at this
 | x :: a,y :: b,h,ha,hb=>by
  obtain⟨h1,h2⟩:=List.pairwise_cons.1 ha
  obtain⟨h3,h4⟩:=List.pairwise_cons.1 hb
  have e:x=y:=by
   have m1:x∈y :: b:=h.mem_iff.1 List.mem_cons_self
   have m2:y∈x :: a:=h.mem_iff.2 List.mem_cons_self
   rcases List.mem_cons.1 m1 with e | m1
   ·exact e
   ·rcases List.mem_cons.1 m2 with e | m2
    ·exact e.symm
    ·have:=h1 y m2;have:=h3 x m1;omega
  subst e
  rw[kR a b (List.Perm.cons_inv h) h2 h4]
theorem zmT (l:List Nat):((l.map (fun n:Nat=>(n:Int))).mergeSort fun x y=>decide (x<=y))=(Tr.isort l).map (fun n:Nat=>(n:Int)):=by
 refine kR _ _ ((List.mergeSort_perm _ _).trans ((Tr.isort_perm l).symm.map _)) ?_ ?_
 ·have:=List.pairwise_mergeSort (le:=fun x y:Int=>decide (x<=y)) (fun a b c h1 h2=>by simp at *;omega) (fun a b=>by simp;omega) (l.map (fun n:Nat=>(n:Int)))
  exact this.imp (fun h=>by simpa using h)
 ·rw[List.pairwise_map]
  exact(Tr.isort_sorted l).imp (fun h=>by omega)
theorem Tr.isort_len (l:List Nat):(Tr.isort l).length=l.length:=(Tr.isort_perm l).length_eq
theorem zlO (d:List Int)(aa:Array Value)(h:d.length<=aa.size):((Go.Sort.putCells (Value.int .i64) 0 d.toArray aa).toList.take d.length)=d.map (Value.int .i64):=by
 apply List.ext_getElem?
 intro t
 rw[List.getElem?_take]
 by_cases ht:t<d.length
 ·rw[if_pos ht,List.getElem?_map,qN ht]
  simp only[Go.Sort.putCells,Array.getElem?_toList,Array.getElem?_mapIdx]
  rw[Array.getElem?_eq_getElem (by omega)]
  simp[ht]
 ·rw[if_neg ht,List.getElem?_eq_none (by simpa using ht)]
theorem zlC {w0 w:World}{a:Option Addr}{k:Nat}{l:List Nat}(h:Rw w0 w 3 1 a k l.length (Tr.ruCells l))(hl:l.length<=1000000000) :
  Calls Tryz.prog 242 #[.slice a l.length k] w fun e w'=>e = .returned (.tuple #[])/\Rw w0 w' 3 1 a k l.length (Tr.ruCells (Tr.isort l)):=by
 by_cases h0:l=[]
 ·subst h0
  exact(Any.slices_Sort_int_none Tryz.lays189 a k w).mono fun e w' ⟨q1,q2⟩=>⟨q1,by rw[q2];exact h⟩
 ·have ag:0<l.length:=List.length_pos_iff.2 h0
  obtain⟨g,gc,e1,_,_⟩:=World.ownsRow.form h.own ag
  simp only[qc,true_and] at e1
  obtain⟨rfl,rfl⟩:=e1
  have hg:=qh h.own g rfl
  have hH:Go.Sort.Holds (Value.int .i64) w g 0 (l.map (fun n:Nat=>(n:Int))).toArray:=by
   intro j hj
   have aa:j<l.length:=by simpa using hj
   rw[Nat.zero_add]
   refine⟨?_,World.ownsRow.frozenAt h.own j⟩
   rw[xd h.own j (by omega)]
   unfold Tr.ruCells
   rw[List.getElem?_map,qN aa,getElem!_pos _ j (by simpa using aa)]
   simp
  have hc:=Tryz.slices_Sort_int g 0 k (l.map (fun n:Nat=>(n:Int))) w hH hg.2 (by rw[qw];omega)
  rw[qw] at hc
  refine hc.mono ?_
  rintro e w' ⟨q1,n,os,q2⟩
  refine⟨q1,?_⟩
  rw[q2,zmT]
  have ab:w.grownBy (Go.Sort.grow (Go.Sort.putRow (Value.int .i64) (Go.Sort.ahead w n) g 0 ((Tr.isort l).map (fun n:Nat=>(n:Int))).toArray) os) (some g):=by
   refine⟨rfl,rfl,rfl,?_,?_⟩
   ·simp[Go.Sort.grow,Go.Sort.putRow,Go.Sort.mapBlock,Go.Sort.ahead]
   ·intro j hj ae
    have af:g≠j:=fun h=>ae (by rw[h])
    simp only[Go.Sort.grow,Go.Sort.putRow,Go.Sort.mapBlock,Go.Sort.ahead]
    rw[Array.getElem?_append_left (by simpa using hj),Array.getElem?_modify,if_neg af]
  refine⟨?_,zY h.gr ab hg.1⟩
  rcases h.own.2 with ⟨h1,_⟩ | ⟨g',c',cur,h1,hB,h2,h3,h4,h5,h6⟩
  ·cases h1
  ·simp only[qc,Option.some.injEq,Addr.mk.injEq] at h1
   obtain⟨⟨rfl,_⟩,_,rfl⟩:=h1
   refine⟨by unfold Tr.ruCells;rw[qw,Tr.isort_len,Nat.mul_one],Or.inr ⟨g,k,Go.Sort.putCells (Value.int .i64) 0 ((Tr.isort l).map (fun n:Nat=>(n:Int))).toArray cur,rfl,hB,?_,h3,h4,by simp[Go.Sort.putCells,h5],?_⟩⟩
   ·have ad:=zE h2
    simp only[Go.Sort.grow,Go.Sort.putRow,Go.Sort.mapBlock,Go.Sort.ahead]
    rw[Array.getElem?_append_left (by simpa using ad),Array.getElem?_modify,if_pos rfl,h2]
    rfl
   ·have hs:=zlO ((Tr.isort l).map (fun n:Nat=>(n:Int))) cur (by rw[qw,Tr.isort_len,h5];omega)
    rw[qw,Tr.isort_len] at hs
    unfold Tr.ruCells
    rw[Nat.mul_one]
    rw[hs,List.map_map]
    rfl
def Tr.byKey (hs:List P.Hst)(k:HKey):Option P.Hst:=hs.find? fun h=>decide (Tr.key h.name=k)
def Tr.wild (hs:List P.Hst):Nat->List UInt8->Option P.Hst
 | 0,_=>none
 | f+1,l=>if (Lib.cut l [46]).2.2 then (match Tr.byKey hs ((Lib.cut l [46]).2.1,true) with | some h=>some h | none=>Tr.wild hs f (Lib.cut l [46]).2.1) else none
def Tr.or2 (a b:Option P.Hst):Option P.Hst:=
 match a with
 | some h=>some h
 | none=>b
def Tr.hostOf (hs:List P.Hst)(name:List UInt8):Option P.Hst:=Tr.or2 (Tr.byKey hs (name,false)) (Tr.or2 (Tr.wild hs (name.length+1) name) (Tr.byKey hs (Tr.key [42])))
theorem zm8 {α β:Type}{R:α->β->Prop}{l:List α}{m:List β}(h:All2 R l m):∀x∈m,∃y∈l,R y x:=by
 induction h with
 | nil=>intro x hx;simp at hx
 | cons hc _ ih=>
  intro x hx
  rcases List.mem_cons.1 hx with rfl | hx
  ·exact⟨_,List.mem_cons_self,hc⟩
  ·obtain⟨y,h1,h2⟩:=ih x hx
   exact⟨y,List.mem_cons_of_mem _ h1,h2⟩
theorem zhK {hs:List P.Hst}(hk:(hs.map fun h=>Tr.key h.name).Pairwise (·≠·)){a:P.Hst}(ha:a∈hs):Tr.byKey hs (Tr.key a.name)=some a:=by
 unfold Tr.byKey
 induction hs with
 | nil=>simp at ha
 | cons x t ih=>
  rw[xi,List.pairwise_cons] at hk
  rcases List.mem_cons.1 ha with rfl | ha
  ·rw[List.find?_cons_of_pos (by simp)]
  ·rw[List.find?_cons_of_neg (by simpa using hk.1 _ (List.mem_map.2 ⟨a,ha,rfl⟩)),ih hk.2 ha]
theorem zlP {α β:Type}{l:List (α×β)}(h:(l.map Prod.fst).Pairwise (·≠·)){x y:α×β}(hx:x∈l)(hy:y∈l)(e:x.1=y.1):x=y:=by
 induction l with
 | nil=>simp at hx
 | cons a t ih=>
  rw[xi,List.pairwise_cons] at h
  rcases List.mem_cons.1 hx with rfl | hx
  ·rcases List.mem_cons.1 hy with rfl | hy
   ·rfl
   ·exact absurd e (h.1 _ (List.mem_map.2 ⟨y,hy,rfl⟩))
  ·have aa:=hx
   rcases List.mem_cons.1 hy with rfl | hy
   ·exact absurd e.symm (h.1 _ (List.mem_map.2 ⟨x,aa,rfl⟩))
   ·exact ih h.2 hx hy
theorem zjO {w:World}{l:List (HKey×Value)}{hs:List P.Hst}(h:All2 (fun x h=>x.1=Tr.key h.name/\HostV w x.2 h) l hs):l.map Prod.fst=hs.map fun h=>Tr.key h.name:=by
 induction h with
 | nil=>rfl
 | cons hc _ ih=>rw[xi,xi,ih,hc.1]
theorem TabM.ask {w:World}{mb:Nat}{l:List (HKey×Value)}{hs:List P.Hst}(h:TabM w mb l hs)(hf:Fits hs)(k:HKey)(hk:k.1.length<=maxLen) :
  ∃a1 n1 k1 b1 m1 q1 fl,(∀W:World,W.heap[mb]?=w.heap[mb]?->(Instr.lookup 156 (.map (some mb)) (.agg #[.string (R.str k.1),.bool k.2]) true).run Tryz.prog W = .ok (.tuple #[.agg #[.slice a1 n1 k1,.slice b1 m1 q1],.bool fl]) W)/\
   ((Tr.byKey hs k=none/\fl=false/\Value.agg #[.slice a1 n1 k1,.slice b1 m1 q1]=Value.agg #[.slice none 0 0,.slice none 0 0])\/∃x,Tr.byKey hs k=some x/\fl=true/\HostV w (.agg #[.slice a1 n1 k1,.slice b1 m1 q1]) x):=by
 have hl:∀x∈l,x.1.1.length<=maxLen:=fun x hx=>by
  obtain⟨y,h1,h2,_⟩:=kw h.all x hx
  have h3:=(hf.hosts y h1).name
  have h4:=Tr.key_le y.name
  rw[h2];unfold maxLen;omega
 have aa:(l.map Prod.fst).Pairwise (·≠·):=by rw[zjO h.all];exact hf.keys
 rcases h.map.look hl k hk with ⟨h1,_⟩ | ⟨x,h1,h2,_⟩
 ·refine⟨none,0,0,none,0,0,false,fun W hW=>?_,Or.inl ⟨?_,rfl,rfl⟩⟩
  ·rcases(h.map.same hW).look hl k hk with ⟨_,q⟩ | ⟨x,q1,q2,_⟩
   ·exact q
   ·exact absurd q2 (h1 x q1)
  ·unfold Tr.byKey
   rw[List.find?_eq_none]
   intro y hy
   obtain⟨x,q1,q2,_⟩:=zm8 h.all y hy
   have:=h1 x q1
   rw[q2] at this
   simpa using this
 ·obtain⟨y,q1,q2,q3⟩:=kw h.all x h1
  obtain⟨ra,rk,pa,pk,e,r1,r2⟩:=q3
  refine⟨ra,_,rk,pa,_,pk,true,fun W hW=>?_,Or.inr ⟨y,?_,rfl,⟨ra,rk,pa,pk,rfl,r1,r2⟩⟩⟩
  ·rcases(h.map.same hW).look hl k hk with ⟨q,_⟩ | ⟨x',p1,p2,p3⟩
   ·exact absurd h2 (q x h1)
   ·have e2:=zlP aa p1 h1 (p2.trans h2.symm)
    rw[e2,e] at p3
    exact p3
  ·rw[<-h2,q2]
   exact zhK hf.keys q1
theorem ze9 (l:List UInt8)(c:UInt8)(h:(Lib.cut l [c]).2.2=true):(Lib.cut l [c]).2.1.length<l.length:=by
 cases l with
 | nil=>exact absurd h (by simp[Lib.cut,Lib.index])
 | cons a t=>
  unfold Lib.cut at h ⊢
  split at h
  ·rename_i hi
   rw[if_pos hi]
   show((a :: t).drop _).length<_
   rw[List.length_drop]
   show _ - (_+1)<_
   simp only[zm]
   omega
  ·cases h
structure Wl (hs:List P.Hst) (res:Option P.Hst) (rest:List UInt8) (more:Bool):Prop where
 ex:∃c f,rest=(Lib.cut c [46]).2.1/\more=(Lib.cut c [46]).2.2/\c.length<=f/\Tr.wild hs (f+1) c=res
theorem Wl.start (hs:List P.Hst)(aa:List UInt8):Wl hs (Tr.wild hs (aa.length+1) aa) (Lib.cut aa [46]).2.1 (Lib.cut aa [46]).2.2:=⟨aa,aa.length,rfl,rfl,zZ _,rfl⟩
theorem Wl.no {hs:List P.Hst}{aa:Option P.Hst}{rest:List UInt8}(h:Wl hs aa rest false):aa=none:=by
 obtain⟨c,f,h1,h2,h3,h4⟩:=h.ex
 rw[<-h4,Tr.wild,if_neg (by rw[<-h2];decide)]
theorem Wl.hit {hs:List P.Hst}{aa:Option P.Hst}{rest:List UInt8}{x:P.Hst}(h:Wl hs aa rest true)(hb:Tr.byKey hs (rest,true)=some x):aa=some x:=by
 obtain⟨c,f,h1,h2,h3,h4⟩:=h.ex
 rw[<-h4,Tr.wild,if_pos h2.symm,<-h1,hb]
theorem Wl.go {hs:List P.Hst}{aa:Option P.Hst}{rest:List UInt8}(h:Wl hs aa rest true)(hb:Tr.byKey hs (rest,true)=none):Wl hs aa (Lib.cut rest [46]).2.1 (Lib.cut rest [46]).2.2:=by
 obtain⟨c,f,h1,h2,h3,h4⟩:=h.ex
 have hl:=ze9 c 46 h2.symm
 rw[<-h1] at hl
 obtain⟨f',rfl⟩:∃f',f=f'+1:=⟨f - 1,by omega⟩
 refine⟨rest,f',rfl,rfl,by omega,?_⟩
 rw[Tr.wild,if_pos h2.symm,<-h1,hb] at h4
 exact h4
def Tr.meas (rv mv:Value):Nat:=
 match mv,rv with
 | .bool true,.string s=>s.size+1
 | _,_=>0
theorem Tr.meas_no (rv:Value):Tr.meas rv (.bool false)=0:=rfl
theorem Tr.meas_yes (l:List UInt8):Tr.meas (.string (R.str l)) (.bool true)=l.length+1:=by show(R.str l).size+1=_;rw[R.str_size]
theorem HostV.form {w:World}{v:Value}{h:P.Hst}(hv:HostV w v h):∃a n k b m q,v = .agg #[.slice a n k,.slice b m q]:=by
 obtain⟨ra,rk,pa,pk,e,_⟩:=hv;exact⟨_,_,_,_,_,_,e⟩
theorem HostV.stored {w:World}{v x y:Value}{h:P.Hst}{b:Nat}{cs:Array Value}{f:Nat×Nat}(hv:HostV w v h)(hb:w.heap[b]?=some (.cells cs 161 f)):HostV ((w.setCell ⟨b,0,none⟩ x).setCell ⟨b,1,none⟩ y) v h:=by
 have h1:=hv.keep (zD w b 0 x) (qx hb (by decide))
 exact h1.keep (zD _ b 1 y) (qx (zF (i:=0) hb x) (by decide))
theorem zlG {w:World}{tb mb:Nat}{l:List (HKey×Value)}{hs:List P.Hst}(hb:w.heap[tb]?=some (.cells #[.map (some mb)] 166 (0,0)))(ht:TabM w mb l hs)(hf:Fits hs)(aa:List UInt8)(hn:aa.length<=3000) :
  Calls Tryz.prog 179 #[.pointer (some ⟨tb,0,none⟩),.string (R.str aa)] w fun e w'=>w.grownBy w' none/\((Tr.hostOf hs aa=none/\e = .returned (.tuple #[.agg #[.slice none 0 0,.slice none 0 0],.bool false]))\/∃x v,Tr.hostOf hs aa=some x/\HostV w' v x/\e = .returned (.tuple #[v,.bool true])):=by
 have aw:=hid hb
 have GW:=hid (zJ w (.cells #[.slice none 0 0,.slice none 0 0] 161) none)
 have av:=hid (heap_alloc_new w (.cells #[.slice none 0 0,.slice none 0 0] 161))
 have ae:Y (∀W,(w.alloc (.cells #[.slice none 0 0,.slice none 0 0] 161)).grownBy W none->W.cell? ⟨tb,0,none⟩=some (.map (some mb))):=fun W hW=>z8 (zB hb (zA GW.o hW) (by simp))
 have ag:Y (∀(k:HKey),k.1.length<=3000->∃a1 n1 k1 b1 m1 q1 fl,(∀W,(w.alloc (.cells #[.slice none 0 0,.slice none 0 0] 161)).grownBy W none->((Instr.lookup 156 (.map (some mb)) (.agg #[.string (R.str k.1),.bool k.2]) true).run Tryz.prog W = .ok (.tuple #[.agg #[.slice a1 n1 k1,.slice b1 m1 q1],.bool fl]) W))/\Y ((Tr.byKey hs k=none/\fl=false/\.agg #[.slice a1 n1 k1,.slice b1 m1 q1]=Value.agg #[.slice none 0 0,.slice none 0 0])\/∃x,Tr.byKey hs k=some x/\fl=true/\HostV w (.agg #[.slice a1 n1 k1,.slice b1 m1 q1]) x)):=fun k hk=>by
  obtain⟨a1,n1,k1,b1,m1,q1,fl,h1,h2⟩:=ht.ask hf k (by unfold maxLen;omega)
  exact⟨a1,n1,k1,b1,m1,q1,fl,fun W hW=>h1 W ((zA GW.o hW).block mb ht.map.lt (by simp)),h2⟩
 have HO:Y (Tr.hostOf hs aa=Tr.or2 (Tr.byKey hs (aa,false)) (Tr.or2 (Tr.wild hs (aa.length+1) aa) (Tr.byKey hs (Tr.key [42])))):=rfl
 have ak:Y (∀(l:List UInt8) W,l.length<=3000->Calls Tryz.prog 238 #[.string (R.str l),.string ⟨#[46]⟩] W fun e w'=>e = .returned (.tuple #[.string (R.str (Lib.cut l [46]).1),.string (R.str (Lib.cut l [46]).2.1),.bool (Lib.cut l [46]).2.2])/\W.grownBy w' none):=fun l W hl=>vz l 46 W (by omega)
 have ao:Y (∀W,Calls Tryz.prog 78 #[.string ⟨#[42]⟩] W fun e w'=>e = .returned (.agg #[.string (R.str [42]),.bool false])/\W.grownBy w' none):=fun W=>zaP [42] W (by decide)
 have ay:=hid (Wl.start hs aa)
 have t0:=ae.o (w.alloc (.cells #[.slice none 0 0,.slice none 0 0] 161)) (zM _ _)
 clear hb ht hf
 generalize Tr.hostOf hs aa=res at*
 generalize Tr.wild hs (aa.length+1) aa=wres at*
 go_enter Tryz.func179,Tryz.ntmps179
 go_upto_region 1 with fail
 generalize(w.alloc (.cells #[.slice none 0 0,.slice none 0 0] 161))=w1 at*
 obtain⟨a1,n1,k1,b1,m1,q1,fl,ad,HL⟩:=ag.o (aa,false) hn
 have h2:=ad w1 (zM _ _)
 clear ad
 rcases HL.o with ⟨h1,rfl,hz⟩ | ⟨x,h1,rfl,hv⟩
 rotate_left
 ·clear HL
  have HE:Y (res=some x):=by show _=_;rw[HO.o,h1];rfl
  have hv:=hv.keep GW.o (zv _ _)
  have gb:=zJ w1 (.cells #[.slice a1 n1 k1,.slice b1 m1 q1] 161) none
  have HQ:=hid (zB av.o (zA (zM _ _) gb) (by simp))
  have af:=hid (heap_alloc_new w1 (.cells #[.slice a1 n1 k1,.slice b1 m1 q1] 161))
  have v0:(w1.alloc (.cells #[.slice a1 n1 k1,.slice b1 m1 q1] 161)).cell? ⟨w1.heap.size,0,none⟩=some (.slice a1 n1 k1):=z8 af.o
  have v1:(w1.alloc (.cells #[.slice a1 n1 k1,.slice b1 m1 q1] 161)).cell? ⟨w1.heap.size,1,none⟩=some (.slice b1 m1 q1):=z8 af.o
  have r0:(w1.alloc (.cells #[.slice a1 n1 k1,.slice b1 m1 q1] 161)).cell? ⟨w.heap.size,0,none⟩=some (.slice none 0 0):=z8 HQ.o
  have r1:(w1.alloc (.cells #[.slice a1 n1 k1,.slice b1 m1 q1] 161)).cell? ⟨w.heap.size,1,none⟩=some (.slice none 0 0):=z8 HQ.o
  have s0:=zrB 0 HQ.o
  have s1:=zrB 1 HQ.o
  have al:Y (w.grownBy (((w1.alloc (.cells #[.slice a1 n1 k1,.slice b1 m1 q1] 161)).setCell ⟨w.heap.size,0,none⟩ (.slice a1 n1 k1)).setCell ⟨w.heap.size,1,none⟩ (.slice b1 m1 q1)) none):=zY (zY (zA (zA GW.o (zM _ _)) gb) (zD _ _ _ _) (zZ _)) (zD _ _ _ _) (zZ _)
  have an:Y (HostV (((w1.alloc (.cells #[.slice a1 n1 k1,.slice b1 m1 q1] 161)).setCell ⟨w.heap.size,0,none⟩ (.slice a1 n1 k1)).setCell ⟨w.heap.size,1,none⟩ (.slice b1 m1 q1)) (.agg #[.slice a1 n1 k1,.slice b1 m1 q1]) x):=(hv.keep gb (zv _ _)).stored HQ.o
  have ab:=hid (zF (i:=1) (zF (i:=0) HQ.o (.slice a1 n1 k1)) (.slice b1 m1 q1))
  have z0:(((w1.alloc (.cells #[.slice a1 n1 k1,.slice b1 m1 q1] 161)).setCell ⟨w.heap.size,0,none⟩ (.slice a1 n1 k1)).setCell ⟨w.heap.size,1,none⟩ (.slice b1 m1 q1)).cell? ⟨w.heap.size,0,none⟩=some (.slice a1 n1 k1):=z8 ab.o
  have z1:(((w1.alloc (.cells #[.slice a1 n1 k1,.slice b1 m1 q1] 161)).setCell ⟨w.heap.size,0,none⟩ (.slice a1 n1 k1)).setCell ⟨w.heap.size,1,none⟩ (.slice b1 m1 q1)).cell? ⟨w.heap.size,1,none⟩=some (.slice b1 m1 q1):=z8 ab.o
  clear gb ab
  have ax:=hid an.o
  clear h1 hv ag HO ao ak ay ae aw HQ af an
  go_wp2
  (try simp only[Exit.inBlock,Exit.then])
  refine bodyPost_ret (v:=.tuple #[.agg #[.slice a1 n1 k1,.slice b1 m1 q1],.bool true]) (by simp[results,Tryz.results179,go_sem,z0,z1]) rfl ?_
  exact⟨al.o,Or.inr ⟨x,HE.o,_,ax.o,rfl⟩⟩
 ·have HE:Y (res=Tr.or2 wres (Tr.byKey hs (Tr.key [42]))):=by show _=_;rw[HO.o,h1];rfl
  rw[hz] at h2
  clear hz HL
  have aj:=hid (ak.o aa)
  have am:Y (w1.grownBy (w1.alloc (.cells #[.slice none 0 0,.slice none 0 0] 161)) none):=zJ _ _ none
  clear h1 HO
  go_wp2_with fail
  refine(aj.o _ hn).mono ?_
  rintro e w2 ⟨rfl,g2⟩
  have G2:=hid (zA am.o g2)
  have aD:=(jW aa 46).2
  clear aj g2 am h2 t0
  generalize(Lib.cut aa [46]).1=c1 at*
  generalize(Lib.cut aa [46]).2.1=r1 at*
  generalize(Lib.cut aa [46]).2.2=mo at*
  go_wp2_with fail
  go_loopw [9,10] (fun rv mv wr=>∃rest ar,rv = .string (R.str rest)/\mv = .bool ar/\rest.length<=3000/\Y (w1.grownBy wr none)/\Y (Wl hs wres rest ar)) (fun rv mv _=>Tr.meas rv mv)
  case atStart=>exact⟨r1,mo,rfl,rfl,by omega,G2,ay⟩
  case round=>
   obtain⟨rest,ar,rfl,rfl,aA,HG,ah⟩:=hrel
   clear ay G2
   have t0:=ae.o wr HG.o
   cases ar
   ·have HN:=hid ah.o.no
    have aq:Y (res=Tr.byKey hs (Tr.key [42])):=by show _=_;rw[HE.o,HN.o];rfl
    clear HE ah ak
    obtain⟨a1,n1,k1,b1,m1,q1,fl,ad,HL⟩:=ag.o ([42],false) (by decide)
    have tA:=ae.o (wr.alloc (.cells #[.slice none 0 0,.slice none 0 0] 161)) (zA HG.o (zJ _ _ none))
    go_upto_region 10 with fail
    go_cut [13,14] (fun bv fv wz=>∃ap,bv = .pointer (some ⟨ap,0,none⟩)/\fv = .bool fl/\Y (wz.heap[ap]?=some (.cells #[.slice a1 n1 k1,.slice b1 m1 q1] 161))/\Y (w1.grownBy wz none))
    case first=>
     go_region_law (go_simp;go_at_call 78;refine(ao.o _).mono ?_;rintro e wK ⟨rfl,gK⟩;have GK:Y (w1.grownBy wK none):=(by first | exact zA HG.o (zA (zQ wr) gK) | exact zA HG.o (zA (zJ wr (.cells #[.slice none 0 0,.slice none 0 0] 161) none) (zA (zQ _) gK)));(try (have ai:=hid (zB (zB (heap_alloc_new wr (.cells #[.slice none 0 0,.slice none 0 0] 161)) (zQ _) (by simp)) gK (by simp));have y0:wK.cell? ⟨wr.heap.size,0,none⟩=some (.slice none 0 0):=z8 ai.o;have y1:wK.cell? ⟨wr.heap.size,1,none⟩=some (.slice none 0 0):=z8 ai.o;have aG:=zrB 0 ai.o;have aH:=zrB 1 ai.o));have tK:=ae.o wK GK.o;have h2:=ad wK GK.o;have h3:=ad (wK.alloc (.cells #[.slice none 0 0,.slice none 0 0] 161)) (zA GK.o (zJ _ _ none));have aF:=ae.o (wK.alloc (.cells #[.slice none 0 0,.slice none 0 0] 161)) (zA GK.o (zJ _ _ none));clear gK)
     all_goals
      go_wp2_with fail
      go_meet
      case rel=>first | exact⟨wK.heap.size,rfl,rfl,heap_alloc_new wK (.cells #[.slice a1 n1 k1,.slice b1 m1 q1] 161),zA GK.o (zJ _ _ none)⟩ | exact⟨wr.heap.size,rfl,rfl,zF (i:=1) (zF (i:=0) ai.o _) _,zY (zY GK.o (zD _ _ _ _) HG.o.size) (zD _ _ _ _) HG.o.size⟩
    case rest=>
     obtain⟨ap,rfl,rfl,au,GZ⟩:=hcut
     generalize wc=wz at*
     have v0:wz.cell? ⟨ap,0,none⟩=some (.slice a1 n1 k1):=z8 au.o
     have v1:wz.cell? ⟨ap,1,none⟩=some (.slice b1 m1 q1):=z8 au.o
     have HQ:=hid (zB av.o GZ.o (by simp))
     have r0:wz.cell? ⟨w.heap.size,0,none⟩=some (.slice none 0 0):=z8 HQ.o
     have r1:wz.cell? ⟨w.heap.size,1,none⟩=some (.slice none 0 0):=z8 HQ.o
     have s0:=zrB 0 HQ.o
     have s1:=zrB 1 HQ.o
     have ab:=hid (zF (i:=1) (zF (i:=0) HQ.o (.slice a1 n1 k1)) (.slice b1 m1 q1))
     have z0:((wz.setCell ⟨w.heap.size,0,none⟩ (.slice a1 n1 k1)).setCell ⟨w.heap.size,1,none⟩ (.slice b1 m1 q1)).cell? ⟨w.heap.size,0,none⟩=some (.slice a1 n1 k1):=z8 ab.o
     have z1:((wz.setCell ⟨w.heap.size,0,none⟩ (.slice a1 n1 k1)).setCell ⟨w.heap.size,1,none⟩ (.slice b1 m1 q1)).cell? ⟨w.heap.size,1,none⟩=some (.slice b1 m1 q1):=z8 ab.o
     have al:Y (w.grownBy ((wz.setCell ⟨w.heap.size,0,none⟩ (.slice a1 n1 k1)).setCell ⟨w.heap.size,1,none⟩ (.slice b1 m1 q1)) none):=zY (zY (zA GW.o GZ.o) (zD _ _ _ _) (zZ _)) (zD _ _ _ _) (zZ _)
     have aC:Y (∀x,HostV w (.agg #[.slice a1 n1 k1,.slice b1 m1 q1]) x->HostV ((wz.setCell ⟨w.heap.size,0,none⟩ (.slice a1 n1 k1)).setCell ⟨w.heap.size,1,none⟩ (.slice b1 m1 q1)) (.agg #[.slice a1 n1 k1,.slice b1 m1 q1]) x):=fun x hv=>(hv.keep (zA GW.o GZ.o) (zv _ _)).stored HQ.o
     clear ag ao ae aw HQ au ab ad tA t0
     go_wp2
     (try simp only[Exit.inBlock,Exit.then])
     refine bodyPost_ret (v:=.tuple #[.agg #[.slice a1 n1 k1,.slice b1 m1 q1],.bool fl]) (by simp[results,Tryz.results179,go_sem,z0,z1]) rfl ?_
     refine⟨al.o,?_⟩
     rcases HL.o with ⟨p1,p2,p3⟩ | ⟨x,p1,p2,hv⟩
     ·exact Or.inl ⟨by rw[aq.o];exact p1,by rw[p2,p3]⟩
     ·exact Or.inr ⟨x,_,by rw[aq.o];exact p1,aC.o x hv,by rw[p2]⟩
   ·obtain⟨a1,n1,k1,b1,m1,q1,fl,ad,HL⟩:=ag.o (rest,true) aA
    have h2:=ad wr HG.o
    clear ad
    rcases HL.o with ⟨h1,rfl,hz⟩ | ⟨x,h1,rfl,hv⟩
    rotate_left
    ·have hv:=hv.keep (zA GW.o HG.o) (zv _ _)
     clear HL
     have HN:=hid (ah.o.hit h1)
     have aq:Y (res=some x):=by show _=_;rw[HE.o,HN.o];rfl
     have gb:=zJ wr (.cells #[.slice a1 n1 k1,.slice b1 m1 q1] 161) none
     have HQ:=hid (zB av.o (zA HG.o gb) (by simp))
     have af:=hid (heap_alloc_new wr (.cells #[.slice a1 n1 k1,.slice b1 m1 q1] 161))
     have v0:(wr.alloc (.cells #[.slice a1 n1 k1,.slice b1 m1 q1] 161)).cell? ⟨wr.heap.size,0,none⟩=some (.slice a1 n1 k1):=z8 af.o
     have v1:(wr.alloc (.cells #[.slice a1 n1 k1,.slice b1 m1 q1] 161)).cell? ⟨wr.heap.size,1,none⟩=some (.slice b1 m1 q1):=z8 af.o
     have r0:(wr.alloc (.cells #[.slice a1 n1 k1,.slice b1 m1 q1] 161)).cell? ⟨w.heap.size,0,none⟩=some (.slice none 0 0):=z8 HQ.o
     have r1:(wr.alloc (.cells #[.slice a1 n1 k1,.slice b1 m1 q1] 161)).cell? ⟨w.heap.size,1,none⟩=some (.slice none 0 0):=z8 HQ.o
     have s0:=zrB 0 HQ.o
     have s1:=zrB 1 HQ.o
     have al:Y (w.grownBy (((wr.alloc (.cells #[.slice a1 n1 k1,.slice b1 m1 q1] 161)).setCell ⟨w.heap.size,0,none⟩ (.slice a1 n1 k1)).setCell ⟨w.heap.size,1,none⟩ (.slice b1 m1 q1)) none):=zY (zY (zA (zA GW.o HG.o) gb) (zD _ _ _ _) (zZ _)) (zD _ _ _ _) (zZ _)
     have an:Y (HostV (((wr.alloc (.cells #[.slice a1 n1 k1,.slice b1 m1 q1] 161)).setCell ⟨w.heap.size,0,none⟩ (.slice a1 n1 k1)).setCell ⟨w.heap.size,1,none⟩ (.slice b1 m1 q1)) (.agg #[.slice a1 n1 k1,.slice b1 m1 q1]) x):=(hv.keep gb (zv _ _)).stored HQ.o
     have ab:=hid (zF (i:=1) (zF (i:=0) HQ.o (.slice a1 n1 k1)) (.slice b1 m1 q1))
     have z0:(((wr.alloc (.cells #[.slice a1 n1 k1,.slice b1 m1 q1] 161)).setCell ⟨w.heap.size,0,none⟩ (.slice a1 n1 k1)).setCell ⟨w.heap.size,1,none⟩ (.slice b1 m1 q1)).cell? ⟨w.heap.size,0,none⟩=some (.slice a1 n1 k1):=z8 ab.o
     have z1:(((wr.alloc (.cells #[.slice a1 n1 k1,.slice b1 m1 q1] 161)).setCell ⟨w.heap.size,0,none⟩ (.slice a1 n1 k1)).setCell ⟨w.heap.size,1,none⟩ (.slice b1 m1 q1)).cell? ⟨w.heap.size,1,none⟩=some (.slice b1 m1 q1):=z8 ab.o
     clear gb ab
     have ax:=hid an.o
     clear h1 hv ag ao ak ae aw HQ af an HE HN ah
     go_wp2
     (try simp only[Exit.inBlock,Exit.then])
     refine bodyPost_ret (v:=.tuple #[.agg #[.slice a1 n1 k1,.slice b1 m1 q1],.bool true]) (by simp[results,Tryz.results179,go_sem,z0,z1]) rfl ?_
     exact⟨al.o,Or.inr ⟨x,aq.o,_,ax.o,rfl⟩⟩
    ·rw[hz] at h2
     clear hz HL
     have HN:=hid (ah.o.go h1)
     have aj:=hid (ak.o rest)
     have am:Y (wr.grownBy (wr.alloc (.cells #[.slice none 0 0,.slice none 0 0] 161)) none):=zJ _ _ none
     have az:=ze9 rest 46
     have aE:=(jW rest 46).2
     clear h1 HE ah ao
     go_wp2_with fail
     refine(aj.o _ aA).mono ?_
     rintro e w3 ⟨rfl,g3⟩
     have G3:=hid (zA (zA HG.o am.o) g3)
     clear aj g3 am h2 t0 HG
     generalize(Lib.cut rest [46]).1=c2 at*
     generalize(Lib.cut rest [46]).2.1=r2 at*
     generalize(Lib.cut rest [46]).2.2=mo2 at*
     have aB:Y (Tr.meas (.string (R.str r2)) (.bool mo2)<Tr.meas (.string (R.str rest)) (.bool true)):=by
      show _<_
      rw[Tr.meas_yes]
      cases mo2
      ·rw[Tr.meas_no];omega
      ·rw[Tr.meas_yes];have:=az rfl;omega
     clear az
     go_wp2_with fail
     go_roundw
     case rel=>exact⟨r2,mo2,rfl,rfl,by omega,G3,HN⟩
     case measure=>exact aB.o
end Go.Proofs.YtfocdefchbnkpaaGreatDoor
