/- What the program reads is what the document's own function reads: errors, and hosts in their order. -/
import Derived.Test.YtfocdefchbnkpaaGreatDoorAli
import Derived.Test.YtfocdefchbnkpaaGreatDoorEqB
import Derived.Test.YtfocdefchbnkpaaGreatDoorRefS
import Derived.Test.YtfocdefchbnkpaaGreatDoorProW
import Derived.Deep.RegionHeld3
set_option maxRecDepth 100000
set_option maxHeartbeats 20000000
namespace Go.Proofs.YtfocdefchbnkpaaGreatDoor
open Go.RowKit
theorem vU (l:List UInt8):xV l=xU l:=by
 unfold xV xU
 by_cases hl:3000<l.length
 ·rw[if_pos hl,if_pos hl]
 ·rw[if_neg hl,if_neg hl]
  rcases zh6 l (by omega) with ⟨h1,h2,h3,h4,_⟩ | d
  ·rw[if_neg (by omega)]
   unfold yg
   rw[if_neg (by rw[h2];simp),h3]
   by_cases hE:(R.readS l).2.E=0
   ·rw[if_neg (by simpa using hE),if_pos hE,hE]
   ·rw[if_pos hE,if_neg hE,h4 hE]
  ·rw[if_pos d.bad]
   unfold yg
   rw[if_pos d.broken,d.place]
def toRl (r:P.Rl):R.Rl:=rlOf r (decide (r.rep≠[]))
def toR (h:P.Hst):R.Hst:=⟨h.name,h.rules.map toRl⟩
theorem ztO {a:R.Rl}{b:P.Rl}(h:RlSim a b)(hg:GoodRl a):a=toRl b:=by
 obtain⟨h1,h2⟩:=h
 have e:a.change=decide (b.rep≠[]):=by
  cases hc:a.change with
  | false=>rw[h2 hc];simp
  | true=>
   have h3:=hg.2 hc
   rw[h1] at h3
   exact(decide_eq_true h3).symm
 rw[h1,e];rfl
theorem zt7 {a:List R.Rl}{b:List P.Rl}(h:All2 RlSim a b)(hg:∀r∈a,GoodRl r):a=b.map toRl:=by
 induction h with
 | nil=>rfl
 | cons h _ ih=>rw[xl,<-ih (fun r hr=>hg r (by simp[hr])),<-ztO h (hg _ (by simp))]
theorem zt9 {a:R.Hst}{b:P.Hst}(h:HstSim a b)(hg:GoodHst a):a=toR b:=by
 obtain⟨h1,h2⟩:=h
 cases a
 simp only at h1 h2
 rw[h1,zt7 h2 hg.2.2.2];rfl
theorem zsV {a:List R.Hst}{b:List P.Hst}(h:All2 HstSim a b)(hg:∀r∈a,GoodHst r):a=b.map toR:=by
 induction h with
 | nil=>rfl
 | cons h _ ih=>rw[xl,<-ih (fun r hr=>hg r (by simp[hr])),<-zt9 h (hg _ (by simp))]
theorem tK (l:List UInt8)(hl:l.length<=3000)(hb:(qD l).2.broken=false)(he:(qD l).2.err=0):GoodHs (R.readS l).1/\(R.readS l).1=(qD l).1.map toR:=by
 rcases zh6 l hl with ⟨h1,h2,h3,h4,h5⟩ | d
 ·have hg:=zmX l hl ⟨h1,by rw[<-h3];exact he⟩
  exact⟨hg,zsV h5 hg.2.2⟩
 ·rw[d.broken] at hb;cases hb
theorem zhH (l:List UInt8)(hl:l.length<=3000)(hb:(qD l).2.broken=false)(he:(qD l).2.err=0):(qD l).1.length<=12/\∀h∈(qD l).1,h.rules.length<=12:=by
 obtain⟨hg,e⟩:=tK l hl hb he
 rw[e] at hg
 refine⟨by have:=hg.1;simp at this;omega,fun h hh=>?_⟩
 have:=(hg.2.2 (toR h) (List.mem_map_of_mem hh)).2.1
 simp[toR] at this;omega
section
variable {α:Type} (lt:α->α->Bool)
def gIns (out:List α)(x:α):List α:=out.take (out.takeWhile fun o=>lt o x).length++[x]++out.drop (out.takeWhile fun o=>lt o x).length
def gSort (l:List α):List α:=l.foldl (gIns lt) []
theorem zoL (aa:List α)(x:α):(gIns lt aa x).Perm (x :: aa):=by
 unfold gIns
 rw[x4,List.singleton_append]
 refine List.perm_middle.trans ?_
 rw[List.take_append_drop]
theorem zrM (p:α->Bool)(l:List α):l.take (l.takeWhile p).length=l.takeWhile p:=by
 induction l with
 | nil=>rfl
 | cons a l ih=>
  rw[List.takeWhile_cons];split
  ·rw[zoF,List.take_succ_cons,ih]
  ·rfl
theorem zrN (p:α->Bool)(l:List α):l.drop (l.takeWhile p).length=l.dropWhile p:=by
 induction l with
 | nil=>rfl
 | cons a l ih=>
  rw[List.takeWhile_cons,List.dropWhile_cons];split
  ·rw[zoF,List.drop_succ_cons,ih]
  ·rfl
theorem ztD (p:α->Bool)(l:List α):∀a∈l.takeWhile p,p a=true:=by
 induction l with
 | nil=>intro a ha;simp at ha
 | cons b l ih=>
  intro a ha
  rw[List.takeWhile_cons] at ha
  split at ha
  ·rename_i hb
   rcases List.mem_cons.1 ha with rfl | ha
   ·exact hb
   ·exact ih a ha
  ·simp at ha
theorem zt2 (hS:Go.Sort.SWO lt)(x:α)(l:List α)(hl:l.Pairwise (fun a b=>lt b a=false)):∀a∈l.dropWhile (fun o=>lt o x),lt a x=false:=by
 induction l with
 | nil=>intro a ha;simp at ha
 | cons b l ih=>
  intro a ha
  rw[List.pairwise_cons] at hl
  rw[List.dropWhile_cons] at ha
  split at ha
  ·exact ih hl.2 a ha
  ·rename_i hb
   have aa:lt b x=false:=by simpa using hb
   rcases List.mem_cons.1 ha with rfl | ha
   ·exact aa
   ·exact hS.ntrans a b x (hl.1 a ha) aa
theorem ziE (hS:Go.Sort.SWO lt)(aa:List α)(x:α)(h:aa.Pairwise (fun a b=>lt b a=false)):(gIns lt aa x).Pairwise (fun a b=>lt b a=false):=by
 unfold gIns
 rw[zrM,zrN]
 have h0:=h
 rw[<-List.takeWhile_append_dropWhile (p:=fun o=>lt o x) (l:=aa),List.pairwise_append] at h0
 obtain⟨h1,h2,h3⟩:=h0
 rw[x4,List.singleton_append,List.pairwise_append,List.pairwise_cons]
 refine⟨h1,⟨fun b hb=>zt2 lt hS x aa h b hb,h2⟩,fun a ha b hb=>?_⟩
 rcases List.mem_cons.1 hb with rfl | hb
 ·have:=ztD _ _ a ha
  exact Go.Sort.SWO.asymmA hS this
 ·exact h3 a ha b hb
theorem gFold (hS:Go.Sort.SWO lt)(l:List α):∀aa:List α,aa.Pairwise (fun a b=>lt b a=false)->(l.foldl (gIns lt) aa).Perm (l++aa)/\(l.foldl (gIns lt) aa).Pairwise (fun a b=>lt b a=false):=by
 induction l with
 | nil=>intro aa h;exact⟨List.Perm.refl _,h⟩
 | cons x l ih=>
  intro aa h
  obtain⟨h1,h2⟩:=ih (gIns lt aa x) (ziE lt hS aa x h)
  refine⟨h1.trans ?_,h2⟩
  refine((zoL lt aa x).append_left l).trans ?_
  exact List.perm_middle
end
def rlLt (a b:R.Rl):Bool:=decide (a.number<b.number)
def hsLt (a b:R.Hst):Bool:=qu a.name b.name
theorem ziL:Go.Sort.SWO rlLt:=⟨fun x=>by simp[rlLt],fun x y z h1 h2=>by simp[rlLt] at *;omega,fun x y z h1 h2=>by simp[rlLt] at *;omega⟩
theorem yl (a b:List UInt8):qu a b=Go.Sort.ltStr a b:=by unfold qu Go.Sort.ltStr;rw[bytesLess_eq]
theorem zhE:Go.Sort.SWO hsLt:=⟨fun x=>by unfold hsLt;rw[yl];exact Go.Sort.swo_ltStr.irrefl _,fun x y z=>by unfold hsLt;rw[yl,yl,yl];exact Go.Sort.swo_ltStr.trans _ _ _,fun x y z=>by unfold hsLt;rw[yl,yl,yl];exact Go.Sort.swo_ltStr.ntrans _ _ _⟩
theorem zc2 (a b:List UInt8)(h1:Go.Sort.ltStr a b=false)(h2:Go.Sort.ltStr b a=false):a=b:=by
 unfold Go.Sort.ltStr at h1 h2
 simp at h1 h2
 exact List.le_antisymm h2 h1
theorem zfJ (l:List R.Rl):zj l=gSort rlLt l:=rfl
theorem zbG (l:List R.Hst):xI l=gSort hsLt (l.map fun h=>⟨h.name,zj h.rules⟩):=by
 unfold xI gSort
 rw[List.foldl_map];rfl
theorem vJ {α β:Type}{f:α->β}(l:List α)(h:(l.map f).Pairwise (·≠·)){a b:α}(ha:a∈l)(hb:b∈l)(e:f a=f b):a=b:=by
 induction l with
 | nil=>simp at ha
 | cons x l ih=>
  rw[xl,List.pairwise_cons] at h
  rcases List.mem_cons.1 ha with ea | ha1
  ·rcases List.mem_cons.1 hb with eb | hb1
   ·rw[ea,eb]
   ·exact absurd (ea ▸ e) (h.1 _ (List.mem_map_of_mem hb1))
  ·rcases List.mem_cons.1 hb with eb | hb1
   ·exact absurd (eb ▸ e).symm (h.1 _ (List.mem_map_of_mem ha1))
   ·exact ih h.2 ha1 hb1
theorem zkA (l m:List R.Rl)(hp:m.Perm l)(hs:m.Pairwise (fun a b=>rlLt b a=false))(hd:(l.map R.Rl.number).Pairwise (·≠·)):m=zj l:=by
 obtain⟨h1,h2⟩:=gFold rlLt ziL l [] .nil
 rw[zb3] at h1
 rw[zfJ]
 refine List.Perm.eq_of_pairwise (le:=fun a b=>rlLt b a=false) ?_ hs h2 (hp.trans h1.symm)
 intro a b ha hb g1 g2
 have e:a.number=b.number:=by simp[rlLt] at g1 g2;omega
 have aa:=hp.mem_iff.1 ha
 have ab:=h1.mem_iff.1 hb
 exact vJ l hd aa ab e
def srtH (h:R.Hst):R.Hst:=⟨h.name,zj h.rules⟩
theorem zlU (l m:List R.Hst)(hp:m.Perm (l.map srtH))(hs:m.Pairwise (fun a b=>hsLt b a=false))(hd:(l.map R.Hst.name).Pairwise (·≠·)):m=xI l:=by
 obtain⟨h1,h2⟩:=gFold hsLt zhE (l.map srtH) [] .nil
 rw[zb3] at h1
 rw[zbG]
 refine List.Perm.eq_of_pairwise (le:=fun a b=>hsLt b a=false) ?_ hs h2 (hp.trans h1.symm)
 intro a b ha hb g1 g2
 unfold hsLt at g1 g2
 rw[yl] at g1 g2
 have e:a.name=b.name:=zc2 _ _ g2 g1
 have aa:((l.map srtH).map R.Hst.name).Pairwise (·≠·):=by rw[List.map_map];exact hd
 exact vJ _ aa (hp.mem_iff.1 ha) (h1.mem_iff.1 hb) e
theorem znQ {a b:P.Hst}(h:SrtR a b)(hd:((toR a).rules.map R.Rl.number).Pairwise (·≠·)):toR b=srtH (toR a):=by
 obtain⟨h1,h2,h3⟩:=h
 have e:b.rules.map toRl=zj (a.rules.map toRl):=by
  refine zkA _ _ (h2.map toRl) ?_ hd
  rw[List.pairwise_map]
  exact h3
 unfold toR srtH
 simp only
 rw[h1,e]
theorem zjV {ps aa:List P.Hst}(h:SrtH ps aa)(hg:GoodHs (ps.map toR)):aa.map toR=xI (ps.map toR):=by
 obtain⟨p,h1,h2,h3,h4⟩:=h
 have e:aa.map toR=(p.map toR).map srtH:=by
  apply List.ext_getElem
  ·simp[h3]
  ·intro j g1 g2
   simp only[List.getElem_map]
   have k1:j<p.length:=by simpa using g2
   have k2:j<aa.length:=by simpa using g1
   refine znQ (h4 j k1 k2) ?_
   exact(hg.2.2 (toR p[j]) (List.mem_map_of_mem (h1.mem_iff.1 (List.getElem_mem k1)))).2.2.1
 refine zlU _ _ ?_ ?_ hg.2.1
 ·rw[e];exact((h1.map toR).map srtH)
 ·rw[e,List.pairwise_map,List.pairwise_map]
  refine h2.imp ?_
  intro a b ab
  show qu b.name a.name=false
  rw[yl];exact ab
theorem zbA {l:List R.Hst}(hg:GoodHs l):(xI l).length<=4/\∀h∈xI l,R.SmallH h:=by
 refine⟨by rw[zaH];exact hg.1,fun h hh=>?_⟩
 obtain⟨h1,_⟩:=gFold hsLt zhE (l.map srtH) [] .nil
 rw[zb3] at h1
 rw[zbG] at hh
 obtain⟨x,hx,rfl⟩:=List.mem_map.1 (h1.mem_iff.1 hh)
 obtain⟨g1,g2,_,g3⟩:=hg.2.2 x hx
 refine⟨g1,?_,fun r hr=>?_⟩
 ·show(zj x.rules).length<=4000
  rw[fa];omega
 ·obtain⟨h2,_⟩:=gFold rlLt ziL x.rules [] .nil
  rw[zb3] at h2
  exact(g3 r (h2.mem_iff.1 hr)).1
theorem zpL (l:List UInt8):(⟨#[34]⟩:ByteArray)++R.str l++⟨#[34]⟩=R.str (R.q l):=by
 apply ByteArray.ext
 simp[R.str,R.q]
theorem ym (l:List UInt8)(w:World)(hl:l.length<=3000):Calls Tryz.prog 105 #[.string (R.str l)] w fun e w'=>e = .returned (.string (R.str (R.q l)))/\w'=w:=by
 have hz:(R.str l).size<=3000:=by rw[R.str_size];exact hl
 have e:=zpL l
 go_enter Tryz.func105,Tryz.ntmps105
 go_wp2
 go_ret
 exact⟨rfl,rfl⟩
theorem Kept.cell {B:Nat}{l:List TypeId}{w w':World}(h:Kept B l w w'){b:Nat}{c:Array Value}{t:TypeId}{f:Nat×Nat}(hb:w.heap[b]?=some (.cells c t f))(ht:t ∉ l):w'.heap[b]?=some (.cells c t f):=by
 rw[h.block b (zI hb) (Or.inr fun c' t' f' hb'=>by rw[hb] at hb';cases hb';exact ht)];exact hb
theorem WInv.grown {w w':World}{wb:Nat}{l:List UInt8}{op:Int}(h:WInv w wb l op)(hg:w.grownBy w' none):WInv w' wb l op:=by
 rcases h with ⟨v,hb,ho⟩ | ⟨v,hb,ho⟩
 ·exact Or.inl ⟨v,zF hb hg (by simp),zV ho hg (fun k hk c=>by cases c)⟩
 ·exact Or.inr ⟨v,zF hb hg (by simp),zV ho hg (fun k hk c=>by cases c)⟩
theorem WInv.op {w:World}{wb:Nat}{l:List UInt8}{op:Int}(h:WInv w wb l op):w.cell? ⟨wb,2,none⟩=some (.int .i64 op):=by
 rcases h with ⟨v,hb,ho⟩ | ⟨v,hb,ho⟩
 ·exact zB hb
 ·exact zB hb
def lnS (op:Nat)(ps:List (List UInt8)):List UInt8:=List.replicate (2*op) 32++ps.flatten++[10]
theorem zsB (op:Nat):Lib.repeatL (⟨#[32,32]⟩:ByteArray).data.toList op=List.replicate (2*op) 32:=by
 have h:=Lib.repeatL_replicate 32 2 op
 rw[Nat.mul_comm];exact h
theorem zjG {w:World}{wb:Nat}{l:List UInt8}{op:Nat}(h:WInv w wb l op)(g c:Nat)(ps:List (List UInt8))(hp:w.heap[g]?=some (.cells (zf ps).toArray 9 (0,0)))(ak:op<=3)
  (hl:l.length+6+ps.flatten.length+1<=140737488355328) (hn:ps.length<=1000) :
  Calls Tryz.prog 104 #[.pointer (some ⟨wb,0,none⟩),.slice (some ⟨g,0,none⟩) ps.length c] w fun e w'=>e = .returned (.tuple #[])/\WInv w' wb (l++lnS op ps) op/\Kept wb wtags w w':=by
 have c2:=h.op
 have H0:Y (WInv w wb l op):=h
 have HP:Y _:=hp
 clear h hp
 have HR:Y (∀W,w.grownBy W none->Calls Tryz.prog 157 #[.string ⟨#[32,32]⟩,.int .i64 op] W fun e w'=>e = .returned (.string (R.str (List.replicate (2*op) 32)))/\w.grownBy w' none/\w'.cell? ⟨wb,2,none⟩=some (.int .i64 op)):=fun W hW=>
  (Tryz.strings_Repeat ⟨#[32,32]⟩ op W (by omega) (by show 2*op<=_;omega)).mono fun e w' ⟨h1,h2⟩=>⟨by rw[h1,zsB];rfl,zD hW (qJ h2),(H0.o.grown (zD hW (qJ h2))).op⟩
 have HW:Y (∀W,w.grownBy W none->Calls Tryz.prog 156 #[.pointer (some ⟨wb,0,none⟩),.string (R.str (List.replicate (2*op) 32))] W fun e w'=>∃n:Int,e = .returned (.tuple #[.int .i64 n,.nilIface])/\WInv w' wb (l++List.replicate (2*op) 32) op/\Kept wb wtags w w'/\w'.cell? ⟨wb,2,none⟩=some (.int .i64 op)):=fun W hW=>
  (ziU (H0.o.grown hW) (R.str (List.replicate (2*op) 32)) (by rw[R.str_size,List.length_replicate];omega)).mono fun e w' ⟨h1,h2,h3⟩=>⟨_,h1,by rw[R.str_toList] at h2;exact h2,(xi hW).trans h3,h2.op⟩
 go_enter Tryz.func104,Tryz.ntmps104
 go_wp2_with fail
 go_region_held3 (fun W=>W.cell? ⟨wb,2,none⟩=some (.int .i64 op)) (go_keep) (first
  | (go_at_call 157;show Calls _ _ _ (World.drew w) _;refine(HR.o _ (zg w)).mono ?_;rintro e wR ⟨rfl,ad,ag⟩;have ab:Y (w.grownBy wR none):=ad;clear ad)
  | (go_at_call 156;refine(HW.o _ ab.o).mono ?_;rintro e wT ⟨nT,rfl,hI,hK,ah⟩;have HI:Y (WInv wT wb (l++List.replicate (2*op) 32) op):=hI;have HK:Y (Kept wb wtags w wT):=hK;clear hI hK))
 all_goals
  clear HR HW ab
  go_wp2_with fail
  go_loopw [17] (fun iv wr=>∃i:Nat,i<=ps.length/\iv = .int .i64 i/\Y (WInv wr wb (l++List.replicate (2*op) 32++(ps.take i).flatten) op)/\Y (Kept wb wtags w wr)) (fun iv _=>ps.length - (intOf iv).toNat)
  case atStart=>exact⟨0,zo _,rfl,by rw[List.take_zero,List.flatten_nil,zb3];exact HI,HK⟩
  case round=>
   obtain⟨i,aj,rfl,IR,KR⟩:=hrel
   by_cases aa:i<ps.length
   ·have ai:(i:Int)<ps.length:=by omega
    have d0:wr.cell? ⟨g,i,none⟩=some (.string (R.str ps[i])):=by
     rw[Lib.cell_of_heap (KR.o.cell HP.o (by decide))]
     simp[zf,aa]
    have af:(ps.take i).flatten.length+ps[i].length<=ps.flatten.length:=by
     have e:ps=ps.take i++ps[i] :: ps.drop (i+1):=by rw[<-List.drop_eq_getElem_cons aa,List.take_append_drop]
     have:=congrArg (fun z=>(List.flatten z).length) e
     simp only[yj,zf7,zh] at this
     omega
    have HW:Y (Calls Tryz.prog 156 #[.pointer (some ⟨wb,0,none⟩),.string (R.str ps[i])] wr fun e w'=>∃n:Int,e = .returned (.tuple #[.int .i64 n,.nilIface])/\WInv w' wb (l++List.replicate (2*op) 32++(ps.take (i+1)).flatten) op/\Kept wb wtags w w'):=
     (ziU IR.o (R.str ps[i]) (by rw[R.str_size];simp only[zh,List.length_replicate];omega)).mono fun e w' ⟨h1,h2,h3⟩=>⟨_,h1,by
      rw[R.str_toList,x4,<-List.flatten_concat,<-uo aa] at h2;exact h2,KR.o.trans h3⟩
    clear af
    generalize ps[i]=pi at*
    go_wp2_with (go_at_call 156;refine HW.o.mono ?_;rintro e w2 ⟨n2,rfl,h2,h3⟩)
    go_roundw
    case rel=>exact⟨i+1,by omega,by go_num,h2,h3⟩
    case measure=>simp[intOf];omega
   ·have ae:Y (Calls Tryz.prog 158 #[.pointer (some ⟨wb,0,none⟩),.int .u8 10] wr fun e w'=>e = .returned .nilIface/\WInv w' wb (l++lnS op ps) op/\Kept wb wtags w w'):=
     (zoQ IR.o 10 (by rw[show i=ps.length by omega,tW (zw _)];simp only[zh,List.length_replicate];omega)).mono fun e w' ⟨h1,h2,h3⟩=>⟨h1,by
      rw[show i=ps.length by omega,tW (zw _)] at h2
      unfold lnS;rw[<-x4,<-x4];exact h2,KR.o.trans h3⟩
    go_wp2_with (go_at_call 158;refine ae.o.mono ?_;rintro e w2 ⟨rfl,h2,h3⟩)
    go_end0
    exact⟨rfl,h2,h3⟩
theorem zlC {w:World}{wb:Nat}{l:List UInt8}(h:WInv w wb l (2:Nat))(m:P.Mt)(h1:m.name.length<=3000)(h2:m.val.length<=3000)(hl:l.length<=100000000000000) :
  Calls Tryz.prog 160 #[.pointer (some ⟨wb,0,none⟩),.agg #[.string (R.str m.name),.bool m.ask,.string (R.str m.val)]] w fun e w'=>e = .returned (.tuple #[])/\WInv w' wb (l++R.lnMt (mtOf m)) (2:Nat)/\Kept wb wtags w w':=by
 have ab:Y ((w.alloc (.cells #[.string (R.str m.name),.bool m.ask,.string (R.str m.val)] 276)).heap[w.heap.size]?=some (.cells #[.string (R.str m.name),.bool m.ask,.string (R.str m.val)] 276)):=heap_alloc_new _ _
 have b0:=ztW ab.o
 have b2:=ztX ab.o
 have aa:Y (w.grownBy (w.alloc (.cells #[.string (R.str m.name),.bool m.ask,.string (R.str m.val)] 276)) none):=zL _ _ _
 have HL:Y (∀W (ps:List (List UInt8)),w.grownBy W none->ps.length<=10->ps.flatten.length<=10000->Calls Tryz.prog 104 #[.pointer (some ⟨wb,0,none⟩),.slice (some ⟨W.heap.size,0,none⟩) ps.length ps.length] (W.alloc (.cells (zf ps).toArray 9)) fun e w'=>e = .returned (.tuple #[])/\WInv w' wb (l++lnS 2 ps) (2:Nat)/\Kept wb wtags w w'/\Kept wb wtags W w'):=fun W ps hW hp1 hp2=>
  (zjG (op:=2) (h.grown (zD hW (zL _ _ _))) W.heap.size ps.length ps (heap_alloc_new _ _) (by omega) (by omega) (by omega)).mono fun e w' ⟨g1,g2,g3⟩=>⟨g1,g2,(xi (zD hW (zL _ _ none))).trans g3,(xi (zL _ _ none)).trans g3⟩
 have HT:Y (R.lnMt (mtOf m)=lnS 2 (if m.ask then [[104,101,97,100,101,114,32],R.q m.name,[32,61,32],R.q m.val,[59]] else [[104,101,97,100,101,114,32],R.q m.name,[59]])):=by
  show R.lnMt (mtOf m)=_
  unfold R.lnMt mtOf lnS
  cases m.ask <;> simp
 have ad:Y (∀W,Calls Tryz.prog 105 #[.string (R.str m.name)] W fun e w'=>e = .returned (.string (R.str (R.q m.name)))/\w'=W):=fun W=>ym m.name W h1
 have ae:Y (∀W,Calls Tryz.prog 105 #[.string (R.str m.val)] W fun e w'=>e = .returned (.string (R.str (R.q m.val)))/\w'=W):=fun W=>ym m.val W h2
 rw[HT.o]
 clear h HT
 cases hask:m.ask with
 | false=>
  rw[hask] at b0 b2 aa
  have af:Y (Calls Tryz.prog 104 #[.pointer (some ⟨wb,0,none⟩),.slice (some ⟨w.heap.size+1,0,none⟩) 3 3] ((w.alloc (.cells #[.string (R.str m.name),.bool false,.string (R.str m.val)] 276)).alloc (.cells #[.string ⟨#[104,101,97,100,101,114,32]⟩,.string (R.str (R.q m.name)),.string ⟨#[59]⟩] 9)) fun e w'=>e = .returned (.tuple #[])/\WInv w' wb (l++lnS 2 [[104,101,97,100,101,114,32],R.q m.name,[59]]) (2:Nat)/\Kept wb wtags w w'):=by
   have h:=HL.o _ [[104,101,97,100,101,114,32],R.q m.name,[59]] aa.o (by simp) (by simp[R.q_len];omega)
   rw[show(w.alloc (.cells #[.string (R.str m.name),.bool false,.string (R.str m.val)] 276)).heap.size=w.heap.size+1 by simp] at h
   exact Calls.mono h fun e w' ⟨k1,k2,k3,_⟩=>⟨k1,k2,k3⟩
  simp only[zb2,if_false]
  clear HL aa ae
  generalize l++lnS 2 [[104,101,97,100,101,114,32],R.q m.name,[59]]=lo at*
  go_enter Tryz.func160,Tryz.ntmps160
  go_wp2_with (go_at_call 105;refine(ad.o _).mono ?_;rintro e w' ⟨rfl,rfl⟩)
  refine af.o.mono ?_
  rintro e w3 ⟨rfl,g2,g3⟩
  go_wp2
  go_end0
  exact⟨rfl,g2,g3⟩
 | true=>
  rw[hask] at b0 b2 aa
  have ag:Y (Calls Tryz.prog 104 #[.pointer (some ⟨wb,0,none⟩),.slice (some ⟨w.heap.size+1,0,none⟩) 5 5] (((w.alloc (.cells #[.string (R.str m.name),.bool true,.string (R.str m.val)] 276)).drew).alloc (.cells #[.string ⟨#[104,101,97,100,101,114,32]⟩,.string (R.str (R.q m.name)),.string ⟨#[32,61,32]⟩,.string (R.str (R.q m.val)),.string ⟨#[59]⟩] 9)) fun e w'=>e = .returned (.tuple #[])/\WInv w' wb (l++lnS 2 [[104,101,97,100,101,114,32],R.q m.name,[32,61,32],R.q m.val,[59]]) (2:Nat)/\Kept wb wtags w w'/\w'.cell? ⟨w.heap.size,0,none⟩=some (.string (R.str m.name))/\w'.cell? ⟨w.heap.size,2,none⟩=some (.string (R.str m.val))):=by
   have h:=HL.o _ [[104,101,97,100,101,114,32],R.q m.name,[32,61,32],R.q m.val,[59]] (zD aa.o (zg _)) (by simp) (by simp[R.q_len];omega)
   rw[show((w.alloc (.cells #[.string (R.str m.name),.bool true,.string (R.str m.val)] 276)).drew).heap.size=w.heap.size+1 by simp[World.drew]] at h
   rw[hask] at ab
   exact Calls.mono h fun e w' ⟨k1,k2,k3,k4⟩=>⟨k1,k2,k3,zB (k4.cell (c:=#[.string (R.str m.name),.bool true,.string (R.str m.val)]) ab.o (by decide)),zB (k4.cell (c:=#[.string (R.str m.name),.bool true,.string (R.str m.val)]) ab.o (by decide))⟩
  simp only[if_true]
  clear HL aa
  generalize l++lnS 2 [[104,101,97,100,101,114,32],R.q m.name,[32,61,32],R.q m.val,[59]]=lo at*
  go_enter Tryz.func160,Tryz.ntmps160
  go_wp2_with fail
  go_region_held3 (fun W=>W.cell? ⟨w.heap.size,0,none⟩=some (.string (R.str m.name))/\W.cell? ⟨w.heap.size,2,none⟩=some (.string (R.str m.val))) (go_keep) (first
   | (go_at_call 105;refine(ad.o _).mono ?_;rintro e w' ⟨rfl,rfl⟩)
   | (go_at_call 105;refine(ae.o _).mono ?_;rintro e w' ⟨rfl,rfl⟩)
   | (go_at_call 104;refine ag.o.mono ?_;rintro e w3 ⟨rfl,g2,g3,g4,g5⟩))
  all_goals
   go_wp2
   refine bodyPost_ret (results_none rfl _ _ _) rfl ?_
   exact⟨rfl,g2,g3⟩
theorem zlK (n:Nat):Lib.decDigits n=R.dec n:=by
 induction n using Nat.strongRecOn with
 | _ n ih=>
  rw[Lib.decDigits,R.dec]
  by_cases h:n<10
  ·rw[dif_pos h,if_pos h]
  ·rw[dif_neg h,if_neg h,ih (n / 10) (by omega)]
theorem zr2 (n:Int)(h:0<=n):Lib.itoa n=R.decI n:=by
 unfold Lib.itoa R.decI
 rw[if_neg (by omega),zlK]
theorem zh7 (l:List (List UInt8×Int)):Lib.join (l.map R.lnTg) [44,32]=R.lnTgs l:=by
 cases l with
 | nil=>rfl
 | cons a l=>
  rw[xl,Lib.join_cons]
  unfold R.lnTgs Lib.joinTail
  rw[List.map_map];rfl
def wW (r:P.Rl):List UInt8:=if r.rep=[] then [] else lnS 2 [[114,101,112,108,97,99,101,32],R.q r.rep,[59]]
def jw (r:P.Rl):List UInt8:=lnS 1 [[114,117,108,101,32],R.decI r.number,[32,123]]
def kT (r:P.Rl):List UInt8:=lnS 2 [[112,97,116,104,32],R.q r.path,[59]]
def ki (r:P.Rl):List UInt8:=lnS 2 [[116,111,32],R.lnTgs r.tg,[59]]
theorem zqM (t:List UInt8×List UInt8):lnS 2 [[115,101,116,32],R.q t.1,[32,61,32],R.q t.2,[59]]=R.lnSet t:=by
 unfold lnS R.lnSet;simp
theorem zlW (t:List UInt8):lnS 2 [[100,114,111,112,32],R.q t,[59]]=R.lnDrop t:=by
 unfold lnS R.lnDrop;simp
theorem zt5 (r:P.Rl):wW r=R.lnTo (toRl r):=by
 unfold wW R.lnTo toRl rlOf lnS
 by_cases h:r.rep=[] <;> simp[h]
theorem zrC (r:P.Rl):jw r++kT r=R.lnHead (toRl r):=by
 unfold jw kT R.lnHead toRl rlOf lnS;simp
theorem zq2 (r:P.Rl):jw r++kT r++(r.ms.map fun m=>R.lnMt (mtOf m)).flatten++ki r++wW r++(r.sets.map R.lnSet).flatten++(r.drops.map R.lnDrop).flatten++lnS 1 [[125]]=R.lines (toRl r):=by
 have e:(toRl r).ms.map R.lnMt=r.ms.map fun m=>R.lnMt (mtOf m):=by
  show(r.ms.map mtOf).map R.lnMt=_
  rw[List.map_map];rfl
 rw[zt5,zrC]
 unfold R.lines ki lnS
 rw[e]
 show _=R.lnHead (toRl r)++_++_++R.lnTgs r.tg++_++_++(r.sets.map R.lnSet).flatten++(r.drops.map R.lnDrop).flatten++_
 simp
theorem zsQ (h:P.Hst):lnS 0 [[104,111,115,116,32],R.q h.name,[32,123]]++(h.rules.map fun r=>R.lines (toRl r)).flatten++lnS 0 [[125]]=R.hostLines (toR h):=by
 have e:(toR h).rules.map R.lines=h.rules.map fun r=>R.lines (toRl r):=by
  show(h.rules.map toRl).map R.lines=_
  rw[List.map_map];rfl
 unfold R.hostLines lnS
 rw[e]
 show _=_++R.q h.name++_++_++_
 simp
theorem zcR (hs:List P.Hst):R.plain (hs.map toR)=(hs.map fun h=>R.hostLines (toR h)).flatten:=by
 unfold R.plain;rw[List.map_map];rfl
theorem dropAdd (l:List UInt8)(a b:Nat):l.drop (a+b)=(l.drop a).drop b:=by rw[List.drop_drop]
theorem zcP (p:Int->Bool)(a b:List UInt8)(ha:∀c∈a,p c.toNat=true)(hb:∀c cs,b=c :: cs->p c.toNat=false):R.span p (a++b)=a.length:=by
 induction a with
 | nil=>
  cases b with
  | nil=>rfl
  | cons c cs=>show(if p c.toNat then _ else 0)=0;rw[hb c cs rfl];rfl
 | cons x a ih=>
  show(if p x.toNat then R.span p (a++b)+1 else 0)=_
  rw[ha x (by simp),if_pos rfl,ih (fun c h=>ha c (by simp[h]))];rfl
structure TokAt (t r:List UInt8) (k:Int):Prop where
 ms:qU (t++r)=(t.length,k)
 nb:∀c cs,t++r=c :: cs->xn c.toNat=false
theorem zpF (t r:List UInt8)(h:t≠[])(ha:∀c∈t,R.smallI c.toNat=true)(hr:∀c cs,r=c :: cs->R.smallI c.toNat=false):TokAt t r 1:=by
 match t,h with
 | c :: t,_=>
  have hc:=ha c (by simp)
  refine⟨?_,fun d ds e=>?_⟩
  ·show(if R.smallI c.toNat then (R.span R.smallI ((c :: t)++r),(1:Int)) else _)=_
   rw[if_pos hc,zcP _ _ _ ha hr]
  ·cases e
   unfold R.smallI at hc;unfold xn
   simp at hc ⊢;omega
theorem tok_num (t r:List UInt8)(h:t≠[])(h5:t.length<=5)(ha:∀c∈t,R.digitI c.toNat=true)(hr:∀c cs,r=c :: cs->R.digitI c.toNat=false):TokAt t r 2:=by
 match t,h with
 | c :: t,_=>
  have hc:=ha c (by simp)
  have aa:R.smallI c.toNat=false:=by unfold R.digitI at hc;unfold R.smallI;simp at hc ⊢;omega
  refine⟨?_,fun d ds e=>?_⟩
  ·show(if R.smallI c.toNat then _ else if R.digitI c.toNat then yD ((c :: t)++r) else _)=_
   rw[if_neg (by rw[aa];simp),if_pos hc]
   unfold yD
   rw[zcP _ _ _ ha hr,if_neg (by omega)]
  ·cases e
   unfold R.digitI at hc;unfold xn
   simp at hc ⊢;omega
theorem zrI (s r:List UInt8)(x:UInt8)(h:x ∉ s):Lib.index (s++x :: r) [x]=s.length:=by
 induction s with
 | nil=>show Lib.index (x :: r) [x]=0;rw[jW,if_pos rfl]
 | cons c s ih=>
  show Lib.index (c :: (s++x :: r)) [x]=_
  have h1:=ih (fun hh=>h (by simp[hh]))
  rw[jW,if_neg (fun e=>h (by simp[e])),h1,if_neg (by omega)]
  simp
theorem zrB (s:List UInt8)(x:UInt8)(h:x ∉ s):Lib.index s [x] = -1:=by
 induction s with
 | nil=>rfl
 | cons c s ih=>
  rw[jW,if_neg (fun e=>h (by simp[e])),ih (fun hh=>h (by simp[hh])),if_pos rfl]
theorem zs4 (s r:List UInt8)(hl:s.length<=24)(ab:(34:UInt8) ∉ s)(aa:(10:UInt8) ∉ s):TokAt (R.q s) r 3:=by
 have hc:Lib.cut (s++34 :: r) [34]=(s,r,true):=by
  unfold Lib.cut
  rw[zrI s r 34 ab,if_pos (by omega)]
  simp
 refine⟨?_,fun d ds e=>?_⟩
 ·have e:R.q s++r=34 :: (s++34 :: r):=by unfold R.q;simp
  rw[e,qU,if_neg (by decide),if_neg (by decide),if_pos (by decide)]
  unfold yO jh Lib.contains
  rw[List.drop_succ_cons,List.drop_zero,hc]
  show(if (!true || (decide (24<s.length) || decide (0<=Lib.index s [10])))=true then ((0:Nat),(5:Int)) else _)=_
  rw[zrB s 10 aa,if_neg (by simp;omega)]
  unfold R.q;simp
 ·have e2:R.q s++r=34 :: (s++34 :: r):=by unfold R.q;simp
  rw[e2] at e;cases e;decide
theorem zh0 (c:UInt8)(r:List UInt8)(hc:R.signI c.toNat=true):TokAt [c] r 4:=by
 have h1:R.smallI c.toNat=false:=by unfold R.signI at hc;unfold R.smallI;simp at hc ⊢;omega
 have h2:R.digitI c.toNat=false:=by unfold R.signI at hc;unfold R.digitI;simp at hc ⊢;omega
 have h3:¬c.toNat=34:=by unfold R.signI at hc;simp at hc;omega
 refine⟨?_,fun d ds e=>?_⟩
 ·show(if R.smallI c.toNat then _ else if R.digitI c.toNat then _ else if c.toNat=34 then _ else if R.signI c.toNat then ((1:Nat),(4:Int)) else _)=_
  rw[if_neg (by rw[h1];simp),if_neg (by rw[h2];simp),if_neg h3,if_pos hc];rfl
 ·cases e
  unfold R.signI at hc;unfold xn
  simp at hc ⊢;omega
theorem zsX (t r:List UInt8)(h:t≠[])(ha:(t.all fun c=>R.smallI c.toNat)=true):TokAt t (32 :: r) 1:=
 zpF t _ h (fun c hc=>List.all_eq_true.1 ha c hc) (fun c cs e=>by cases e;decide)
structure At (l rest:List UInt8) (st:P.St):Prop where
 ok:st.broken=false
 err:st.err=0
 pos:∃p b,(∀c∈b,xn c.toNat=true)/\l.drop p=b++rest/\p<=l.length/\st.tok=zp l p
theorem At.blank {l r:List UInt8}{c:UInt8}{st:P.St}(h:At l (c :: r) st)(hc:xn c.toNat=true):At l r st:=by
 obtain⟨p,b,hb,hd,hp,e⟩:=h.pos
 exact⟨h.ok,h.err,p,b++[c],fun x hx=>by rcases List.mem_append.1 hx with hx | hx;exact hb x hx;simp at hx;rw[hx];exact hc,by rw[hd];simp,hp,e⟩
theorem At.blanks {l r:List UInt8}{st:P.St}:∀(b:List UInt8),At l (b++r) st->(b.all fun c=>xn c.toNat)=true->At l r st
 | [],h,_=>h
 | c :: b,h,hb=>by
  simp only[List.all_cons,Bool.and_eq_true] at hb
  exact At.blanks b (At.blank h hb.1) hb.2
theorem At.tok {l t r:List UInt8}{k:Int}{st:P.St}(h:At l (t++r) st)(ht:TokAt t r k) :
  st.tok.raw=t/\st.tok.k=k/\At l r (qg l st true):=by
 obtain⟨p,bl,hb,aa,hp,e⟩:=h.pos
 have hs:R.span xn (l.drop p)=bl.length:=by rw[aa];exact zcP _ _ _ hb ht.nb
 have ab:qI l p=p+bl.length:=by unfold qI;rw[hs]
 have hd:l.drop (qI l p)=t++r:=by rw[ab,dropAdd,aa,List.drop_left]
 have ad:st.tok.raw=t:=by
  rw[e];show(l.drop (qI l p)).take (qU (l.drop (qI l p))).1=t
  rw[hd,ht.ms,List.take_left]
 have hk:st.tok.k=k:=by rw[e];show(qU (l.drop (qI l p))).2=k;rw[hd,ht.ms]
 have ae:st.tok.at_=p+bl.length:=by rw[e];exact ab
 refine⟨ad,hk,?_⟩
 unfold qg
 rw[if_pos ⟨rfl,h.ok⟩]
 refine⟨h.ok,h.err,p+bl.length+t.length,[],(fun c hc=>by cases hc),?_,?_,?_⟩
 ·rw[dropAdd,dropAdd,aa,List.drop_left,List.drop_left];rfl
 ·have:=congrArg List.length aa;simp only[List.length_drop,zh] at this;omega
 ·show zp l (st.tok.at_+st.tok.raw.length)=_;rw[ae,ad]
theorem At.take {l t r:List UInt8}{k:Int}{st:P.St}(h:At l (t++r) st)(ht:TokAt t r k):At l r (zX l st t):=by
 obtain⟨h1,_,h3⟩:=h.tok ht
 unfold zX
 rw[h1,show decide (t=t)=true by simp];exact h3
theorem At.sees {l t r:List UInt8}{k:Int}{st:P.St}(h:At l (t++r) st)(ht:TokAt t r k)(x:List UInt8):qX st x=decide (t=x):=by
 obtain⟨h1,_,_⟩:=h.tok ht
 unfold qX
 rw[h1,h.ok];simp
theorem At.word {l r:List UInt8}{st:P.St}(t:List UInt8)(h:At l (t++32 :: r) st)(h0:t≠[])(ha:(t.all fun c=>R.smallI c.toNat)=true):At l r (zX l st t):=
 (h.take (zsX t r h0 ha)).blank (by decide)
theorem At.sign {l r:List UInt8}{st:P.St}(c:UInt8)(h:At l (c :: r) st)(hc:R.signI c.toNat=true):At l r (zX l st [c]):=At.take (t:=[c]) h (zh0 c r hc)
theorem At.str {l s r:List UInt8}{st:P.St}(h:At l (R.q s++r) st)(hl:s.length<=24)(ab:(34:UInt8) ∉ s)(aa:(10:UInt8) ∉ s) :
  (qG l st).1=s/\At l r (qG l st).2:=by
 obtain⟨h1,h2,h3⟩:=h.tok (zs4 s r hl ab aa)
 unfold qG
 rw[h2,show((3:Int) == 3)=true from rfl]
 refine⟨?_,h3⟩
 rw[h3.ok,h1]
 unfold R.q;simp
theorem ztF (n:Nat):R.dec n≠[]:=by unfold R.dec;split <;> simp
theorem zkR (n:Nat):∀c∈R.dec n,R.digitI c.toNat=true:=by
 induction n using Nat.strongRecOn with
 | ind n ih=>
  intro c hc
  have d:∀k,k<10->R.digitI (UInt8.ofNat (48+k)).toNat=true:=by decide
  unfold R.dec at hc
  split at hc
  ·rename_i h;rw[List.mem_singleton] at hc;rw[hc];exact d n h
  ·rcases List.mem_append.1 hc with hc | hc
   ·exact ih (n / 10) (by omega) c hc
   ·rw[List.mem_singleton] at hc;rw[hc];exact d (n % 10) (Nat.mod_lt _ (by decide))
theorem zqC (l:List UInt8)(c:UInt8):R.num (l++[c])=R.numStep (R.num l) c:=by unfold R.num;rw[List.foldl_append];rfl
theorem zrJ (n:Nat)(h:n<=99999):R.num (R.dec n)=n:=by
 induction n using Nat.strongRecOn with
 | ind n ih=>
  have d:∀k,k<10->(UInt8.ofNat (48+k)).toNat=48+k:=by decide
  unfold R.dec
  split
  ·rename_i hn
   show R.numStep 0 (UInt8.ofNat (48+n))=n
   unfold R.numStep;rw[d n hn]
   simp only[wrap64];omega
  ·rw[zqC,ih (n / 10) (by omega) (by omega)]
   unfold R.numStep;rw[d (n % 10) (by omega)]
   simp only[wrap64];omega
theorem At.num {l r:List UInt8}{n:Int}{st:P.St}(h:At l (R.decI n++r) st)(hn:0<=n/\n<=99999)(hr:∀c cs,r=c :: cs->R.digitI c.toNat=false) :
  (xB l st).1=n/\At l r (xB l st).2:=by
 obtain⟨h1,h2,h3⟩:=h.tok (tok_num (R.decI n) r (ztF _) (R.decI_len n hn) (zkR _) hr)
 unfold xB
 rw[h2,show((2:Int) == 2)=true from rfl]
 refine⟨?_,h3⟩
 rw[h3.ok,h1]
 show R.num (R.dec n.toNat)=n
 rw[zrJ n.toNat (by omega)];omega
theorem vy (st:P.St)(a b:Int)(h:a<b):qE st a b=st:=by
 unfold qE zt;rw[if_neg (by simp;omega)]
theorem jG (st:P.St)(b:Bool)(e a:Int)(h:b=false):zt st b e a=st:=by rw[h];rfl
theorem tQ {c:UInt8}(h:R.partI c.toNat false=true):c≠34/\c≠10/\R.partI c.toNat true=true/\R.lowC c=c:=by
 have h':R.smallI c.toNat=true\/R.digitI c.toNat=true\/(c.toNat:Int)=45:=by unfold R.partI at h;simpa[or_assoc] using h
 have hb:(97<=c.toNat/\c.toNat<=122)\/(48<=c.toNat/\c.toNat<=57)\/c.toNat=45:=by
  rcases h' with h | h | h
  ·left;unfold R.smallI at h;simp at h;omega
  ·right;left;unfold R.digitI at h;simp at h;omega
  ·right;right;omega
 refine⟨fun e=>by subst e;revert hb;decide,fun e=>by subst e;revert hb;decide,?_,?_⟩
 ·unfold R.partI at h ⊢;simp at h ⊢;exact Or.inl h
 ·unfold R.lowC R.largeI;rw[if_neg (by simp;omega)]
theorem zmF {s:List UInt8}(h:R.word s false=true):(34:UInt8) ∉ s/\(10:UInt8) ∉ s/\R.word s true=true/\R.lower s=s:=by
 unfold R.word R.allB at h
 simp only[Bool.and_eq_true,List.all_eq_true,decide_eq_true_eq] at h
 refine⟨fun hm=>(tQ (h.1 _ hm)).1 rfl,fun hm=>(tQ (h.1 _ hm)).2.1 rfl,?_,?_⟩
 ·unfold R.word R.allB
  simp only[Bool.and_eq_true,List.all_eq_true,decide_eq_true_eq]
  exact⟨fun c hc=>(tQ (h.1 c hc)).2.2.1,h.2⟩
 ·unfold R.lower
  conv=>rhs;rw[<-List.map_id s]
  exact List.map_congr_left fun c hc=>(tQ (h.1 c hc)).2.2.2
theorem zoS {s:List UInt8}(h:R.header s false=true):(34:UInt8) ∉ s/\(10:UInt8) ∉ s/\R.header s true=true/\R.lower s=s:=by
 unfold R.header at h ⊢
 rw[Bool.and_eq_true] at h ⊢
 obtain⟨h1,h2,h3,h4⟩:=zmF h.1
 exact⟨h1,h2,⟨h3,h.2⟩,h4⟩
theorem ziP {s:List UInt8}(h:R.value s=true):(34:UInt8) ∉ s/\(10:UInt8) ∉ s:=by
 unfold R.value R.allB at h
 simp only[Bool.and_eq_true,List.all_eq_true] at h
 refine⟨fun hm=>?_,fun hm=>?_⟩
 ·have:=h.1 _ hm;revert this;decide
 ·have:=h.1 _ hm;revert this;decide
theorem zmH {s:List UInt8}(h:R.path s=true):(34:UInt8) ∉ s/\(10:UInt8) ∉ s:=by
 unfold R.path R.allB at h
 simp only[Bool.and_eq_true,List.all_eq_true] at h
 refine⟨fun hm=>?_,fun hm=>?_⟩
 ·have:=h.1 _ hm;revert this;decide
 ·have:=h.1 _ hm;revert this;decide
theorem zbB {s:List UInt8}(h:R.upstream s=true):(34:UInt8) ∉ s/\(10:UInt8) ∉ s:=by
 unfold R.upstream R.allB at h
 simp only[Bool.and_eq_true,List.all_eq_true] at h
 refine⟨fun hm=>?_,fun hm=>?_⟩
 ·have:=h.1 _ hm;revert this;decide
 ·have:=h.1 _ hm;revert this;decide
theorem fF:∀(s:List UInt8) (n:Nat),R.labelsGo false s n=true->(34:UInt8) ∉ s/\(10:UInt8) ∉ s/\R.labelsGo true s n=true/\R.lower s=s
 | [],n,h=>⟨by simp,by simp,by simpa[R.labelsGo] using h,rfl⟩
 | c :: s,n,h=>by
  unfold R.labelsGo at h ⊢
  by_cases aa:(c.toNat:Int)=46/\0<n
  ·rw[if_pos aa] at h ⊢
   obtain⟨h1,h2,h3,h4⟩:=fF s 0 h
   have hc:c=46:=UInt8.toNat_inj.1 (by have:=aa.1;show c.toNat=46;omega)
   subst hc
   exact⟨by simp[h1],by simp[h2],h3,by show R.lowC 46 :: R.lower s=_;rw[h4];rfl⟩
  ·rw[if_neg aa] at h ⊢
   by_cases hp:R.partI c.toNat false=true
   ·rw[if_pos hp] at h
    obtain⟨h1,h2,h3,h4⟩:=fF s (n+1) h
    obtain⟨p1,p2,p3,p4⟩:=tQ hp
    rw[if_pos p3]
    exact⟨by simp[h1,Ne.symm p1],by simp[h2,Ne.symm p2],h3,by show R.lowC c :: R.lower s=_;rw[h4,p4]⟩
   ·rw[if_neg hp] at h;cases h
theorem zr5 {s:List UInt8}(h:R.named s false=true):(34:UInt8) ∉ s/\(10:UInt8) ∉ s/\R.named s true=true/\R.lower s=s:=by
 unfold R.named at h ⊢
 by_cases h1:s=[42]
 ·rw[if_pos h1];subst h1;exact⟨by decide,by decide,rfl,by decide⟩
 ·rw[if_neg h1] at h ⊢
  by_cases h2:s.take 2=[42,46]/\2<s.length
  ·rw[if_pos h2] at h ⊢
   obtain⟨g1,g2,g3,g4⟩:=fF _ 0 h
   have e:s=[42,46]++s.drop 2:=by rw[<-h2.1,List.take_append_drop]
   refine⟨?_,?_,g3,?_⟩
   ·rw[e];simp;exact g1
   ·rw[e];simp;exact g2
   ·rw[e]
    show R.lower ([42,46]++s.drop 2)=_
    unfold R.lower at g4 ⊢
    rw[fJ,g4];rfl
  ·rw[if_neg h2] at h ⊢
   obtain⟨g1,g2,g3,g4⟩:=fF _ 0 h
   exact⟨g1,g2,g3,g4⟩
structure VMt (m:P.Mt):Prop where
 name:R.header m.name false=true
 nl:m.name.length<=24
 val:R.value m.val=true
 vl:m.val.length<=24
 no:m.ask=false->m.val=[]
structure VTg (t:List UInt8×Int):Prop where
 up:R.upstream t.1=true
 ul:t.1.length<=24
 lo:1<=t.2
 hi:t.2<=1000
structure VSt (t:List UInt8×List UInt8):Prop where
 name:R.header t.1 false=true
 nl:t.1.length<=24
 val:R.value t.2=true
 vl:t.2.length<=24
structure VDp (t:List UInt8):Prop where
 name:R.header t false=true
 nl:t.length<=24
structure VRl (r:P.Rl):Prop where
 num:0<=r.number/\r.number<=65535
 path:R.path r.path=true
 pl:r.path.length<=24
 ml:r.ms.length<=3
 ms:∀m∈r.ms,VMt m
 t0:r.tg≠[]
 tl:r.tg.length<=4
 tg:∀t∈r.tg,VTg t
 rep:r.rep=[]\/(R.path r.rep=true/\r.rep.length<=24)
 sl:r.sets.length<=3
 sets:∀s∈r.sets,VSt s
 dl:r.drops.length<=3
 drops:∀d∈r.drops,VDp d
 once:(r.sets.map Prod.fst++r.drops).Pairwise (·≠·)
structure VHst (h:P.Hst):Prop where
 name:R.named h.name false=true
 nl:h.name.length<=24
 rl:h.rules.length<=6
 ord:(h.rules.map P.Rl.number).Pairwise (·<·)
 rules:∀r∈h.rules,VRl r
structure VHs (hs:List P.Hst):Prop where
 hl:hs.length<=4
 ord:(hs.map P.Hst.name).Pairwise (fun a b=>qu a b=true)
 hosts:∀h∈hs,VHst h
theorem At.path {l s r:List UInt8}{st:P.St}(w:List UInt8)(h:At l (w++32 :: (R.q s++59 :: r)) st)(h0:w≠[])(ha:(w.all fun c=>R.smallI c.toNat)=true)(hs:R.path s=true)(hl:s.length<=24) :
  (yJ l st w).1=s/\At l r (yJ l st w).2:=by
 have h1:=h.word w h0 ha
 obtain⟨h2,h3⟩:=h1.str hl (zmH hs).1 (zmH hs).2
 unfold yJ
 rw[h2]
 refine⟨rfl,?_⟩
 rw[jG _ _ _ _ (by rw[hs];rfl)]
 exact h3.sign 59 (by decide)
theorem At.header {l s r:List UInt8}{st:P.St}(h:At l (R.q s++r) st)(hs:R.header s false=true)(hl:s.length<=24) :
  (qj l st).1=s/\At l r (qj l st).2:=by
 obtain⟨n1,n2,n3,n4⟩:=zoS hs
 obtain⟨h2,h3⟩:=h.str hl n1 n2
 unfold qj
 rw[h2]
 refine⟨n4,?_⟩
 rw[jG _ _ _ _ (by rw[n3];rfl)]
 exact h3
theorem At.value {l s r:List UInt8}{st:P.St}(h:At l (61 :: 32 :: (R.q s++r)) st)(hs:R.value s=true)(hl:s.length<=24) :
  (xQ l st).1=s/\At l r (xQ l st).2:=by
 have h1:=(h.sign 61 (by decide)).blank (by decide)
 obtain⟨h2,h3⟩:=h1.str hl (ziP hs).1 (ziP hs).2
 unfold xQ
 rw[h2]
 refine⟨rfl,?_⟩
 rw[jG _ _ _ _ (by rw[hs];rfl)]
 exact h3
theorem At.seesSign {l r:List UInt8}{st:P.St}{c:UInt8}(h:At l (c :: r) st)(hc:R.signI c.toNat=true)(x:List UInt8):qX st x=decide ([c]=x):=At.sees (t:=[c]) h (zh0 c r hc) x
theorem At.seesWord {l r:List UInt8}{st:P.St}(t:List UInt8)(h:At l (t++32 :: r) st)(h0:t≠[])(ha:(t.all fun c=>R.smallI c.toNat)=true)(x:List UInt8):qX st x=decide (t=x):=h.sees (zsX t r h0 ha) x
theorem At.match_ {l r:List UInt8}{st:P.St}(m:P.Mt)(n:Nat)(h:At l (R.lnMt (mtOf m)++r) st)(hm:VMt m)(hn:n<3) :
  (x8 l st n).1=m/\At l r (x8 l st n).2:=by
 have e:R.lnMt (mtOf m)++r=[32,32,32,32]++(qd++32 :: (R.q m.name++((if m.ask then [32,61,32]++R.q m.val else [])++59 :: 10 :: r))):=by
  unfold R.lnMt mtOf qd;simp
 rw[e] at h
 have h1:=(h.blanks _ (by decide)).word qd (by decide) (by decide)
 obtain⟨a1,a2⟩:=h1.header hm.name hm.nl
 have ea:jH l st n=qj l (zX l st qd):=by unfold jH;rw[vy _ _ _ (by omega)]
 obtain⟨mn,ma,mv⟩:=m
 simp only at a1 a2 hm
 cases ma with
 | true=>
  have a3:At l (61 :: 32 :: (R.q mv++59 :: 10 :: r)) (qj l (zX l st qd)).2:=by
   refine At.blank (c:=32) ?_ (by decide)
   simpa using a2
  have aa:qX (qj l (zX l st qd)).2 [61]=true:=by rw[a3.seesSign (by decide)];decide
  obtain⟨b1,b2⟩:=a3.value hm.val hm.vl
  unfold x8 vo
  rw[ea,aa,if_pos rfl,a1,b1]
  exact⟨rfl,(b2.sign 59 (by decide)).blank (by decide)⟩
 | false=>
  have a3:At l (59 :: 10 :: r) (qj l (zX l st qd)).2:=by simpa using a2
  have aa:qX (qj l (zX l st qd)).2 [61]=false:=by rw[a3.seesSign (by decide)];decide
  have hv:mv=[]:=hm.no rfl
  unfold x8 vo
  rw[ea,aa,if_neg (by simp),a1,hv]
  exact⟨rfl,(a3.sign 59 (by decide)).blank (by decide)⟩
theorem At.mtLoop {l r:List UInt8}(ad:∀st,At l r st->qX st qd=false):∀(ms:List P.Mt) (ab:Nat) (st:P.St) (aa:List P.Mt),
  At l ((ms.map fun m=>R.lnMt (mtOf m)).flatten++r) st->(∀m∈ms,VMt m)->aa.length+ms.length<=3->ms.length<ab->(xL l ab st aa).1=aa++ms/\At l r (xL l ab st aa).2
 | [],ab+1,st,aa,h,_,_,_=>by
  have h':At l r st:=h
  unfold xL
  rw[ad st h',if_neg (by simp)]
  exact⟨by simp,h'⟩
 | m :: ms,ab+1,st,aa,h,hv,hl,hf=>by
  have h':At l (R.lnMt (mtOf m)++((ms.map fun m=>R.lnMt (mtOf m)).flatten++r)) st:=by simpa using h
  have hs:qX st qd=true:=by
   have e:R.lnMt (mtOf m)++((ms.map fun m=>R.lnMt (mtOf m)).flatten++r)=[32,32,32,32]++(qd++32 :: (R.q m.name++((if m.ask then [32,61,32]++R.q m.val else [])++59 :: 10 :: ((ms.map fun m=>R.lnMt (mtOf m)).flatten++r)))):=by
    unfold R.lnMt mtOf qd;simp
   rw[e] at h'
   rw[(h'.blanks _ (by decide)).seesWord qd (by decide) (by decide)];simp
  simp only[zoF] at hl hf
  obtain⟨a1,a2⟩:=h'.match_ m aa.length (hv m (by simp)) (by omega)
  unfold xL
  rw[hs,if_pos rfl,a1]
  have:=At.mtLoop ad ms ab _ (aa++[m]) a2 (fun x hx=>hv x (by simp[hx])) (by simp;omega) (by omega)
  exact⟨by rw[this.1];simp,this.2⟩
theorem At.target {l r:List UInt8}{st:P.St}(t:List UInt8×Int)(n:Nat)(c:UInt8)(h:At l (R.lnTg t++c :: r) st)(ht:VTg t)(hn:n<4)(hc:R.digitI c.toNat=false) :
  (zk l st n).1=t/\At l (c :: r) (zk l st n).2:=by
 have e:R.lnTg t++c :: r=R.q t.1++32 :: (R.decI t.2++c :: r):=by unfold R.lnTg;simp
 rw[e] at h
 obtain⟨a1,a2⟩:=h.str ht.ul (zbB ht.up).1 (zbB ht.up).2
 have hA:xq l st n=(t.1,(qG l st).2):=by
  unfold xq
  rw[vy _ _ _ (by omega),a1,jG _ _ _ _ (by rw[ht.up];rfl)]
 obtain⟨b1,b2⟩:=(a2.blank (by decide)).num ⟨by have:=ht.lo;omega,by have:=ht.hi;omega⟩ (fun d ds e=>by cases e;exact hc)
 unfold zk
 rw[hA]
 simp only
 rw[b1,jG _ _ _ _ (by have:=ht.hi;simp;omega)]
 exact⟨rfl,b2⟩
theorem At.tgLoop {l r:List UInt8}:∀(ts:List (List UInt8×Int)) (ab:Nat) (st:P.St) (aa:List (List UInt8×Int)),
  At l ((ts.map fun u=>[44,32]++R.lnTg u).flatten++59 :: r) st->(∀t∈ts,VTg t)->aa.length+ts.length<=4->ts.length<ab->(xc l ab st aa).1=aa++ts/\At l (59 :: r) (xc l ab st aa).2
 | [],ab+1,st,aa,h,_,_,_=>by
  have h':At l (59 :: r) st:=h
  unfold xc
  rw[h'.seesSign (by decide),if_neg (by decide)]
  exact⟨by simp,h'⟩
 | t :: ts,ab+1,st,aa,h,hv,hl,hf=>by
  have h':At l (44 :: 32 :: (R.lnTg t++((ts.map fun u=>[44,32]++R.lnTg u).flatten++59 :: r))) st:=by simpa using h
  have hs:qX st [44]=true:=by rw[h'.seesSign (by decide)];decide
  have h2:=(h'.sign 44 (by decide)).blank (by decide)
  simp only[zoF] at hl hf
  obtain⟨c,r',hc,hd⟩:∃c r',(ts.map fun u=>[44,32]++R.lnTg u).flatten++59 :: r=c :: r'/\R.digitI c.toNat=false:=by
   cases ts with
   | nil=>exact⟨59,r,rfl,by decide⟩
   | cons u us=>exact⟨44,_,rfl,by decide⟩
  rw[hc] at h2
  obtain⟨a1,a2⟩:=h2.target t aa.length c (hv t (by simp)) (by omega) hd
  rw[<-hc] at a2
  unfold xc
  rw[hs,if_pos rfl,a1]
  have:=At.tgLoop ts ab _ (aa++[t]) a2 (fun x hx=>hv x (by simp[hx])) (by simp;omega) (by omega)
  exact⟨by rw[this.1];simp,this.2⟩
theorem At.targets {l r:List UInt8}{st:P.St}(ts:List (List UInt8×Int))(h:At l (kL++32 :: (R.lnTgs ts++59 :: r)) st)(h0:ts≠[])(hv:∀t∈ts,VTg t)(hl:ts.length<=4)(hf:ts.length<=l.length) :
  (qh l st).1=ts/\At l r (qh l st).2:=by
 match ts,h0 with
 | t :: ts,_=>
  have h1:=h.word kL (by decide) (by decide)
  have aa:At l (R.lnTg t++((ts.map fun u=>[44,32]++R.lnTg u).flatten++59 :: r)) (zX l st kL):=by simpa[R.lnTgs] using h1
  obtain⟨c,r',hc,hd⟩:∃c r',(ts.map fun u=>[44,32]++R.lnTg u).flatten++59 :: r=c :: r'/\R.digitI c.toNat=false:=by
   cases ts with
   | nil=>exact⟨59,r,rfl,by decide⟩
   | cons u us=>exact⟨44,_,rfl,by decide⟩
  rw[hc] at aa
  obtain⟨a1,a2⟩:=aa.target t 0 c (hv t (by simp)) (by omega) hd
  rw[<-hc] at a2
  simp only[zoF] at hl hf
  obtain⟨b1,b2⟩:=At.tgLoop ts (l.length+1) _ [t] a2 (fun x hx=>hv x (by simp[hx])) (by simp;omega) (by omega)
  have hA:(yA l st).1=t :: ts/\At l (59 :: r) (yA l st).2:=by
   unfold yA
   rw[a1]
   exact⟨b1,b2⟩
  have ab:(t :: ts).filter (fun t=>!(t.2 == 0))=t :: ts:=List.filter_eq_self.2 fun x hx=>by
   have:=(hv x hx).lo
   simp;omega
  unfold qh
  rw[hA.1,ab]
  refine⟨rfl,?_⟩
  rw[jG _ _ _ _ (by rfl)]
  exact hA.2.sign 59 (by decide)
theorem At.edited {l s r:List UInt8}{st:P.St}(am:List (List UInt8))(h:At l (R.q s++r) st)(hs:R.header s false=true)(hl:s.length<=24)(ha:s ∉ am) :
  (x3 l st am).1=s/\At l r (x3 l st am).2:=by
 obtain⟨a1,a2⟩:=h.header hs hl
 unfold x3
 rw[a1]
 refine⟨rfl,?_⟩
 rw[jG _ _ _ _ (by rw[List.any_eq_false];intro x hx;simp;intro e;subst e;exact ha hx)]
 exact a2
theorem At.set_ {l r:List UInt8}{st:P.St}(t:List UInt8×List UInt8)(n:Nat)(am:List (List UInt8))(h:At l (R.lnSet t++r) st)(ht:VSt t)(hn:n<3)(ha:t.1 ∉ am) :
  (xy l st n am).1=t/\At l r (xy l st n am).2:=by
 have e:R.lnSet t++r=[32,32,32,32]++(xf++32 :: (R.q t.1++32 :: 61 :: 32 :: (R.q t.2++59 :: 10 :: r))):=by
  unfold R.lnSet xf;simp
 rw[e] at h
 have h1:=(h.blanks _ (by decide)).word xf (by decide) (by decide)
 have hA:jd l st n am=x3 l (zX l st xf) am:=by unfold jd;rw[vy _ _ _ (by omega)]
 obtain⟨a1,a2⟩:=h1.edited am ht.name ht.nl ha
 obtain⟨b1,b2⟩:=(a2.blank (by decide)).value ht.val ht.vl
 unfold xy
 rw[hA,a1,b1]
 exact⟨rfl,(b2.sign 59 (by decide)).blank (by decide)⟩
theorem At.drop_ {l r:List UInt8}{st:P.St}(t:List UInt8)(n:Nat)(am:List (List UInt8))(h:At l (R.lnDrop t++r) st)(ht:VDp t)(hn:n<3)(ha:t ∉ am) :
  (xm l st n am).1=t/\At l r (xm l st n am).2:=by
 have e:R.lnDrop t++r=[32,32,32,32]++(x7++32 :: (R.q t++59 :: 10 :: r)):=by
  unfold R.lnDrop x7;simp
 rw[e] at h
 have h1:=(h.blanks _ (by decide)).word x7 (by decide) (by decide)
 have hA:je l st n am=x3 l (zX l st x7) am:=by unfold je;rw[vy _ _ _ (by omega)]
 obtain⟨a1,a2⟩:=h1.edited am ht.name ht.nl ha
 unfold xm
 rw[hA,a1]
 exact⟨rfl,(a2.sign 59 (by decide)).blank (by decide)⟩
theorem At.stLoop {l r:List UInt8}(ad:∀st,At l r st->qX st xf=false):∀(ts:List (List UInt8×List UInt8)) (ab:Nat) (st:P.St) (aa:List (List UInt8×List UInt8)),
  At l ((ts.map R.lnSet).flatten++r) st->(∀m∈ts,VSt m)->((aa++ts).map Prod.fst).Pairwise (·≠·)->aa.length+ts.length<=3->ts.length<ab->(qy l ab st aa).1=aa++ts/\At l r (qy l ab st aa).2
 | [],ab+1,st,aa,h,_,_,_,_=>by
  have h':At l r st:=h
  unfold qy
  rw[ad st h',if_neg (by simp)]
  exact⟨by simp,h'⟩
 | t :: ts,ab+1,st,aa,h,hv,hp,hl,hf=>by
  have h':At l (R.lnSet t++((ts.map R.lnSet).flatten++r)) st:=by simpa using h
  have hs:qX st xf=true:=by
   have e:R.lnSet t++((ts.map R.lnSet).flatten++r)=[32,32,32,32]++(xf++32 :: (R.q t.1++32 :: 61 :: 32 :: (R.q t.2++59 :: 10 :: ((ts.map R.lnSet).flatten++r)))):=by
    unfold R.lnSet xf;simp
   rw[e] at h'
   rw[(h'.blanks _ (by decide)).seesWord xf (by decide) (by decide)];simp
  simp only[zoF] at hl hf
  have ae:t.1 ∉ aa.map Prod.fst:=by
   rw[fJ,List.pairwise_append] at hp
   intro hm
   exact hp.2.2 _ hm t.1 (by simp) rfl
  obtain⟨a1,a2⟩:=h'.set_ t aa.length (aa.map Prod.fst) (hv t (by simp)) (by omega) ae
  unfold qy
  rw[hs,if_pos rfl,a1]
  have:=At.stLoop ad ts ab _ (aa++[t]) a2 (fun x hx=>hv x (by simp[hx])) (by simpa using hp) (by simp;omega) (by omega)
  exact⟨by rw[this.1];simp,this.2⟩
theorem At.dpLoop {l r:List UInt8}(ad:List (List UInt8))(ae:∀st,At l r st->qX st x7=false):∀(ts:List (List UInt8)) (ab:Nat) (st:P.St) (aa:List (List UInt8)),
  At l ((ts.map R.lnDrop).flatten++r) st->(∀m∈ts,VDp m)->(ad++aa++ts).Pairwise (·≠·)->aa.length+ts.length<=3->ts.length<ab->(qp l ad ab st aa).1=aa++ts/\At l r (qp l ad ab st aa).2
 | [],ab+1,st,aa,h,_,_,_,_=>by
  have h':At l r st:=h
  unfold qp
  rw[ae st h',if_neg (by simp)]
  exact⟨by simp,h'⟩
 | t :: ts,ab+1,st,aa,h,hv,hp,hl,hf=>by
  have h':At l (R.lnDrop t++((ts.map R.lnDrop).flatten++r)) st:=by simpa using h
  have hs:qX st x7=true:=by
   have e:R.lnDrop t++((ts.map R.lnDrop).flatten++r)=[32,32,32,32]++(x7++32 :: (R.q t++59 :: 10 :: ((ts.map R.lnDrop).flatten++r))):=by
    unfold R.lnDrop x7;simp
   rw[e] at h'
   rw[(h'.blanks _ (by decide)).seesWord x7 (by decide) (by decide)];simp
  simp only[zoF] at hl hf
  have af:t ∉ ad++aa:=by
   rw[List.pairwise_append] at hp
   intro hm
   exact hp.2.2 _ hm t (by simp) rfl
  obtain⟨a1,a2⟩:=h'.drop_ t aa.length (ad++aa) (hv t (by simp)) (by omega) af
  unfold qp
  rw[hs,if_pos rfl,a1]
  have:=At.dpLoop ad ae ts ab _ (aa++[t]) a2 (fun x hx=>hv x (by simp[hx])) (by simpa using hp) (by simp;omega) (by omega)
  exact⟨by rw[this.1];simp,this.2⟩
theorem At.len {l r:List UInt8}{st:P.St}(h:At l r st):r.length<=l.length:=by
 obtain⟨p,b,_,hd,_,_⟩:=h.pos
 have:=congrArg List.length hd
 simp only[List.length_drop,zh] at this;omega
theorem znC (x:P.Rl):R.lnTo (toRl x)=if x.rep=[] then [] else [32,32,32,32]++(qW++32 :: (R.q x.rep++[59,10])):=by
 unfold R.lnTo toRl rlOf qW
 by_cases h:x.rep=[] <;> simp[h]
theorem zcI (x:P.Rl)(r:List UInt8):R.lines (toRl x)++r=[32,32]++(xH++32 :: (R.decI x.number++32 :: 123 :: ([10,32,32,32,32]++(jC++32 :: (R.q x.path++59 :: 10 :: ((x.ms.map fun m=>R.lnMt (mtOf m)).flatten++
  ([32,32,32,32]++(kL++32 :: (R.lnTgs x.tg++59 :: 10 :: (R.lnTo (toRl x)++((x.sets.map R.lnSet).flatten++((x.drops.map R.lnDrop).flatten++32 :: 32 :: 125 :: 10 :: r)))))))))))):=by
 have e:(toRl x).ms.map R.lnMt=x.ms.map fun m=>R.lnMt (mtOf m):=by
  show(x.ms.map mtOf).map R.lnMt=_
  rw[List.map_map];rfl
 unfold R.lines R.lnHead
 rw[e]
 show(([32,32,114,117,108,101,32]++R.decI x.number++_++R.q x.path++_)++_++_++R.lnTgs x.tg++_++_++(x.sets.map R.lnSet).flatten++(x.drops.map R.lnDrop).flatten++_)++r=_
 unfold xH jC kL
 simp
theorem zeO {l r:List UInt8}(ds:List (List UInt8))(w:List UInt8)(h1:x7≠w)(h2:[125]≠w)(st:P.St)(h:At l ((ds.map R.lnDrop).flatten++32 :: 32 :: 125 :: r) st):qX st w=false:=by
 cases ds with
 | nil=>
  have h':At l ([32,32]++125 :: r) st:=h
  rw[(h'.blanks _ (by decide)).seesSign (by decide)];simpa using h2
 | cons d ds=>
  have e:((d :: ds).map R.lnDrop).flatten++32 :: 32 :: 125 :: r=[32,32,32,32]++(x7++32 :: (R.q d++59 :: 10 :: ((ds.map R.lnDrop).flatten++32 :: 32 :: 125 :: r))):=by
   rw[xl,zf7];unfold R.lnDrop x7;simp
  rw[e] at h
  rw[(h.blanks _ (by decide)).seesWord x7 (by decide) (by decide)];simpa using h1
theorem zpM {l r:List UInt8}(ss:List (List UInt8×List UInt8))(ds:List (List UInt8))(w:List UInt8)(h0:xf≠w)(h1:x7≠w)(h2:[125]≠w)(st:P.St)(h:At l ((ss.map R.lnSet).flatten++((ds.map R.lnDrop).flatten++32 :: 32 :: 125 :: r)) st):qX st w=false:=by
 cases ss with
 | nil=>exact zeO ds w h1 h2 st h
 | cons d ss=>
  have e:((d :: ss).map R.lnSet).flatten++((ds.map R.lnDrop).flatten++32 :: 32 :: 125 :: r)=[32,32,32,32]++(xf++32 :: (R.q d.1++32 :: 61 :: 32 :: (R.q d.2++59 :: 10 :: ((ss.map R.lnSet).flatten++((ds.map R.lnDrop).flatten++32 :: 32 :: 125 :: r))))):=by
   rw[xl,zf7];unfold R.lnSet xf;simp
  rw[e] at h
  rw[(h.blanks _ (by decide)).seesWord xf (by decide) (by decide)];simpa using h0
theorem At.rule {l r:List UInt8}{st:P.St}(x:P.Rl)(aa:List Int)(h:At l (R.lines (toRl x)++r) st)(hv:VRl x)(hn:aa.length<6)(ho:x.number ∉ aa) :
  (xg l st aa).1=x/\At l r (xg l st aa).2:=by
 rw[zcI] at h
 have ad:8<=l.length:=by
  have:=h.len
  simp only[zh,zoF,xH,zmU] at this;omega
 have h1:=(h.blanks _ (by decide)).word xH (by decide) (by decide)
 obtain⟨n1,n2⟩:=h1.num ⟨hv.num.1,by have:=hv.num.2;omega⟩ (fun c cs e=>by cases e;decide)
 have hA:jT l st aa=(x.number,(xB l (zX l st xH)).2):=by
  unfold jT yX
  rw[vy _ _ _ (by omega),n1]
  rw[jG _ (decide (65535<x.number)) _ _ (by have:=hv.num.2;simp;omega)]
  rw[jG _ _ _ _ (by rw[List.any_eq_false];intro y hy;simp;intro e;subst e;exact ho hy)]
 have h2:=((n2.blank (by decide)).sign 123 (by decide)).blanks _ (by decide)
 obtain⟨b1,b2⟩:=h2.path jC (by decide) (by decide) hv.path hv.pl
 have hB:vH l (xB l (zX l st xH)).2=yJ l (zX l (xB l (zX l st xH)).2 [123]) jC:=rfl
 rw[<-hB] at b1 b2
 generalize hb:vH l (xB l (zX l st xH)).2=b at b1 b2
 obtain⟨m1,m2⟩:=At.mtLoop (l:=l) (fun s hs=>by rw[(hs.blanks [32,32,32,32] (by decide)).seesWord kL (by decide) (by decide)];decide) x.ms (l.length+1) b.2 [] (b2.blank (by decide)) hv.ms (by have:=hv.ml;simp;omega) (by have:=hv.ml;omega)
 generalize hm:xL l (l.length+1) b.2 []=m at m1 m2
 obtain⟨t1,t2⟩:=At.targets x.tg (m2.blanks _ (by decide)) hv.t0 hv.tg hv.tl (by have:=hv.tl;omega)
 generalize ht:qh l m.2=t at t1 t2
 have hC:(j0 l t.2).1=x.rep/\At l ((x.sets.map R.lnSet).flatten++((x.drops.map R.lnDrop).flatten++32 :: 32 :: 125 :: 10 :: r)) (j0 l t.2).2:=by
  have t3:=t2.blank (by decide)
  rw[znC] at t3
  unfold j0
  by_cases hr:x.rep=[]
  ·rw[if_pos hr] at t3
   have t4:At l ((x.sets.map R.lnSet).flatten++((x.drops.map R.lnDrop).flatten++32 :: 32 :: 125 :: 10 :: r)) t.2:=t3
   rw[zpM _ _ qW (by decide) (by decide) (by decide) _ t4,if_neg (by simp)]
   exact⟨hr.symm,t4⟩
  ·rw[if_neg hr] at t3
   have t4:At l ([32,32,32,32]++(qW++32 :: (R.q x.rep++59 :: (10 :: ((x.sets.map R.lnSet).flatten++((x.drops.map R.lnDrop).flatten++32 :: 32 :: 125 :: 10 :: r)))))) t.2:=by simpa using t3
   have t5:=t4.blanks _ (by decide)
   have hp:=hv.rep.resolve_left hr
   rw[t5.seesWord qW (by decide) (by decide),if_pos (by simp)]
   obtain⟨c1,c2⟩:=t5.path qW (by decide) (by decide) hp.1 hp.2
   exact⟨c1,c2.blank (by decide)⟩
 obtain⟨c1,c2⟩:=hC
 generalize hc:j0 l t.2=c at c1 c2
 have ab:=hv.once
 obtain⟨s1,s2⟩:=At.stLoop (l:=l) (fun s hs=>zeO x.drops xf (by decide) (by decide) s hs) x.sets (l.length+1) c.2 [] c2 hv.sets (by rw[List.nil_append];exact(List.pairwise_append.1 ab).1) (by have:=hv.sl;simp;omega) (by have:=hv.sl;omega)
 rw[List.nil_append] at s1
 generalize hs:qy l (l.length+1) c.2 []=s at s1 s2
 obtain⟨d1,d2⟩:=At.dpLoop (l:=l) (s.1.map Prod.fst) (fun q hq=>by rw[(At.blanks [32,32] hq (by decide)).seesSign (by decide)];decide) x.drops (l.length+1) s.2 [] s2 hv.drops (by rw[s1,zb3];exact ab) (by have:=hv.dl;simp;omega) (by have:=hv.dl;omega)
 rw[List.nil_append] at d1
 generalize hd:qp l (s.1.map Prod.fst) (l.length+1) s.2 []=d at d1 d2
 have hR:xg l st aa=(⟨x.number,b.1,m.1,t.1,c.1,s.1,d.1⟩,zX l d.2 [125]):=by
  unfold xg
  rw[hA]
  unfold uC
  simp only
  rw[hb,hm]
  unfold uE
  rw[ht]
  unfold vN
  rw[hc,hs]
  unfold wH
  rw[hd]
 rw[hR]
 refine⟨?_,((d2.blanks [32,32] (by decide)).sign 125 (by decide)).blank (by decide)⟩
 show(⟨x.number,b.1,m.1,t.1,c.1,s.1,d.1⟩:P.Rl)=x
 rw[b1,m1,t1,c1,s1,d1];rfl
theorem At.rlLoop {l r:List UInt8}(ad:∀st,At l r st->qX st xH=false):∀(xs:List P.Rl) (ab:Nat) (st:P.St) (aa:List P.Rl),
  At l ((xs.map fun x=>R.lines (toRl x)).flatten++r) st->(∀m∈xs,VRl m)->((aa++xs).map P.Rl.number).Pairwise (·<·)->aa.length+xs.length<=6->xs.length<ab->(xR l ab st aa).1=aa++xs/\At l r (xR l ab st aa).2
 | [],ab+1,st,aa,h,_,_,_,_=>by
  have h':At l r st:=h
  unfold xR
  rw[ad st h',if_neg (by simp)]
  exact⟨by simp,h'⟩
 | x :: xs,ab+1,st,aa,h,hv,hp,hl,hf=>by
  have h':At l (R.lines (toRl x)++((xs.map fun x=>R.lines (toRl x)).flatten++r)) st:=by simpa using h
  have hs:qX st xH=true:=by
   have h2:=h'
   rw[zcI] at h2
   rw[(h2.blanks _ (by decide)).seesWord xH (by decide) (by decide)];simp
  simp only[zoF] at hl hf
  have ae:x.number ∉ aa.map P.Rl.number:=by
   rw[fJ,List.pairwise_append] at hp
   intro hm
   have:=hp.2.2 _ hm x.number (by simp)
   omega
  obtain⟨a1,a2⟩:=h'.rule x (aa.map P.Rl.number) (hv x (by simp)) (by simp;omega) ae
  unfold xR
  rw[hs,if_pos rfl,a1]
  have:=At.rlLoop ad xs ab _ (aa++[x]) a2 (fun y hy=>hv y (by simp[hy])) (by simpa using hp) (by simp;omega) (by omega)
  exact⟨by rw[this.1];simp,this.2⟩
theorem fT (x:P.Hst)(r:List UInt8):R.hostLines (toR x)++r=R.wHost++32 :: (R.q x.name++32 :: 123 :: 10 :: ((x.rules.map fun x=>R.lines (toRl x)).flatten++125 :: 10 :: r)):=by
 have e:(toR x).rules.map R.lines=x.rules.map fun r=>R.lines (toRl r):=by
  show(x.rules.map toRl).map R.lines=_
  rw[List.map_map];rfl
 unfold R.hostLines R.wHost
 rw[e]
 show([104,111,115,116,32]++R.q x.name++_++_++_)++r=_
 simp
theorem At.host {l r:List UInt8}{st:P.St}(x:P.Hst)(aa:List (List UInt8))(h:At l (R.hostLines (toR x)++r) st)(hv:VHst x)(hn:aa.length<4)(ho:x.name ∉ aa) :
  (xj l st aa).1=x/\At l r (xj l st aa).2:=by
 rw[fT] at h
 have ab:7<=l.length:=by
  have:=h.len
  simp only[zh,zoF,R.wHost,zmU,R.q_len] at this;omega
 obtain⟨n1,n2,n3,n4⟩:=zr5 hv.name
 have h1:=h.word R.wHost (by decide) (by decide)
 obtain⟨a1,a2⟩:=h1.str hv.nl n1 n2
 have hA:kI l st aa=(x.name,(qG l (zX l st R.wHost)).2):=by
  unfold kI xX tD
  rw[vy _ _ _ (by omega),a1,n4]
  rw[jG _ (!R.named x.name true) _ _ (by rw[n3];rfl)]
  rw[jG _ _ _ _ (by rw[List.any_eq_false];intro y hy;simp;intro e;subst e;exact ho hy)]
 have h2:=((a2.blank (by decide)).sign 123 (by decide)).blank (by decide)
 obtain⟨b1,b2⟩:=At.rlLoop (l:=l) (fun s hs=>by rw[hs.seesSign (by decide)];decide) x.rules (l.length+1) _ [] h2 hv.rules (by rw[List.nil_append];exact hv.ord) (by have:=hv.rl;simp;omega) (by have:=hv.rl;omega)
 unfold xj ziB
 rw[hA]
 simp only
 rw[b1]
 exact⟨rfl,(b2.sign 125 (by decide)).blank (by decide)⟩
theorem fU (a:List UInt8):qu a a=false:=by
 unfold qu
 induction a with
 | nil=>rfl
 | cons c a ih=>unfold Op.bytesLess;simp[ih]
theorem At.hsLoop {l:List UInt8}:∀(xs:List P.Hst) (ab:Nat) (st:P.St) (aa:List P.Hst),
  At l (xs.map fun x=>R.hostLines (toR x)).flatten st->(∀m∈xs,VHst m)->((aa++xs).map P.Hst.name).Pairwise (fun a b=>qu a b=true)->aa.length+xs.length<=4->xs.length<ab->(qn l ab st aa).1=aa++xs/\At l [] (qn l ab st aa).2
 | [],ab+1,st,aa,h,_,_,_,_=>by
  have h':At l ([]++[]) st:=h
  have ht:TokAt [] [] 0:=⟨rfl,fun c cs e=>by cases e⟩
  unfold qn
  rw[h'.sees ht,if_neg (by decide)]
  exact⟨by simp,h'⟩
 | x :: xs,ab+1,st,aa,h,hv,hp,hl,hf=>by
  have h':At l (R.hostLines (toR x)++(xs.map fun x=>R.hostLines (toR x)).flatten) st:=by simpa using h
  have hs:qX st R.wHost=true:=by
   have h2:=h'
   rw[fT] at h2
   rw[h2.seesWord R.wHost (by decide) (by decide)];simp
  simp only[zoF] at hl hf
  have ad:x.name ∉ aa.map P.Hst.name:=by
   rw[fJ,List.pairwise_append] at hp
   intro hm
   have:=hp.2.2 _ hm x.name (by simp)
   rw[fU] at this;cases this
  obtain⟨a1,a2⟩:=h'.host x (aa.map P.Hst.name) (hv x (by simp)) (by simp;omega) ad
  unfold qn
  rw[hs,if_pos rfl,a1]
  have:=At.hsLoop xs ab _ (aa++[x]) a2 (fun y hy=>hv y (by simp[hy])) (by simpa using hp) (by simp;omega) (by omega)
  exact⟨by rw[this.1];simp,this.2⟩
theorem zk6 (hs:List P.Hst)(hv:VHs hs):(qD (R.plain (hs.map toR))).1=hs/\(qD (R.plain (hs.map toR))).2.broken=false/\(qD (R.plain (hs.map toR))).2.err=0:=by
 rw[zcR]
 generalize hl:(hs.map fun h=>R.hostLines (toR h)).flatten=l
 have h0:At l (hs.map fun h=>R.hostLines (toR h)).flatten (vr l):=⟨rfl,rfl,0,[],(fun c hc=>by cases hc),by rw[hl];rfl,zo _,rfl⟩
 have hf:hs.length<l.length+1:=by
  have:hs.length<=l.length:=by
   rw[<-hl]
   have:∀xs:List P.Hst,xs.length<=(xs.map fun h=>R.hostLines (toR h)).flatten.length:=fun xs=>by
    induction xs with
    | nil=>simp
    | cons x xs ih=>
     rw[xl,zf7,zh,zoF]
     have:1<=(R.hostLines (toR x)).length:=by unfold R.hostLines;simp only[zh,zoF,zmU];omega
     omega
   exact this hs
  omega
 obtain⟨a1,a2⟩:=At.hsLoop hs (l.length+1) (vr l) [] h0 hv.hosts (by rw[List.nil_append];exact hv.ord) (by have:=hv.hl;simp;omega) hf
 have a3:At l ([]++[]) (qn l (l.length+1) (vr l) []).2:=a2
 obtain⟨_,k0,a4⟩:=a3.tok (t:=[]) (r:=[]) (k:=0) ⟨rfl,fun c cs e=>by cases e⟩
 have he:jm l (qn l (l.length+1) (vr l) []).2=qg l (qn l (l.length+1) (vr l) []).2 true:=by
  unfold jm;rw[k0];rfl
 unfold qD
 exact⟨by rw[a1];rfl,by rw[he];exact a4.ok,by rw[he];exact a4.err⟩
end Go.Proofs.YtfocdefchbnkpaaGreatDoor
