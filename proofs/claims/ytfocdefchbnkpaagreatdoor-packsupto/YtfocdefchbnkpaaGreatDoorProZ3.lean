/- The writer of a policy: what it has written. -/
import Derived.Test.YtfocdefchbnkpaaGreatDoorAli
import Derived.Test.YtfocdefchbnkpaaGreatDoorEqD
import Derived.Shelf.RegionOpenPlain
import Derived.Deep.AppendLies
set_option maxRecDepth 100000
set_option maxHeartbeats 20000000
namespace Go.Proofs.YtfocdefchbnkpaaGreatDoor
open Go.RowKit
theorem zoW:(Tryz.prog).cellsOf 5=1:=by kernel_rfl
theorem zjB {w:World}{wb:Nat}{l:List UInt8}{op:Int}(h:WInv w wb l op)(h0:l≠[]) :
  Calls Tryz.prog 69 #[.pointer (some ⟨wb,0,none⟩)] w fun e w'=>e = .returned (.string (R.str l))/\Kept wb wtags w w':=by
 obtain⟨p,v,af,ae⟩:∃p v,w.heap[wb]?=some (.cells #[p,v,.int .i64 op] 143 (0,0))/\w.ownsRow (wb+1) 5 1 v l.length (Lib.byteCells l):=by
  rcases h with ⟨v,h1,h2⟩ | ⟨v,h1,h2⟩
  ·exact⟨_,v,h1,h2⟩
  ·exact⟨_,v,h1,h2⟩
 have ai:l.length≠0:=by simpa using h0
 obtain⟨g,aa,ab,rfl,ao,hg,aq,ag,ap,al⟩:∃g aa ab,v = .slice (some ⟨g,0,none⟩) l.length aa/\wb+1<=g/\w.heap[g]?=some (.cells ab 5 (0,0))/\l.length<=aa/\aa<=maxLen/\ab.size=aa*1/\ab.toList.take (l.length*1)=Lib.byteCells l:=by
  rcases ae.2 with ⟨_,hz⟩ | ⟨g,aa,ab,hv,r⟩
  ·exact absurd hz ai
  ·exact⟨g,aa,ab,hv,r⟩
 have c1:w.drew.cell? ⟨wb,1,none⟩=some (.slice (some ⟨g,0,none⟩) l.length aa):=by
  have h1:w.drew.heap[wb]?=some (.cells #[p,.slice (some ⟨g,0,none⟩) l.length aa,.int .i64 op] 143 (0,0)):=af
  exact zB h1
 have am:(Builtin.unsafeSliceData_ #[32] 215 #[.slice (some ⟨g,0,none⟩) l.length aa]).run Tryz.prog w.drew = .ok (.pointer (some ⟨g,0,none⟩)) w.drew:=
  Lib.run_unsafeSliceData_row _ _ _ _ _ _ (by omega)
 have an:(Builtin.unsafeString_ #[215,3] 9 #[.pointer (some ⟨g,0,none⟩),.int .i64 l.length]).run Tryz.prog w.drew = .ok (.string ⟨l.toArray⟩) (w.drew.freeze ⟨g,0,none⟩ l.length):=by
  refine Lib.run_unsafeString_row w.drew 215 3 9 5 Tryz.underlying215 zoW g ab.size (by have ah:w.drew.heap[g]?=some (.cells ab 5 (0,0)):=hg;simp[World.shape?,ah]) l h0 (by omega) (by unfold maxLen at ag;omega) ?_
  intro j x hx
  have:=ae.cells (g:=g) rfl j (.int .u8 x.toNat) (by simp[Lib.byteCells,hx])
  exact this
 have HK:Y (Kept wb wtags w (w.drew.freeze ⟨g,0,none⟩ l.length)):=by
  have aj:∀k,k≠g->(w.drew.freeze ⟨g,0,none⟩ l.length).heap[k]?=w.heap[k]?:=by
   intro k hk
   show((w.drew).freeze ⟨g,0,none⟩ l.length).heap[k]?=(w.drew).heap[k]?
   generalize w.drew=wd
   simp[World.freeze,h0,Array.getElem?_modify,Ne.symm hk]
  have ak:w.heap.size<=(w.drew.freeze ⟨g,0,none⟩ l.length).heap.size:=by
   show(w.drew).heap.size<=_
   generalize w.drew=wd
   simp[World.freeze,h0]
  have ad:(w.drew.freeze ⟨g,0,none⟩ l.length).os=w.os/\(w.drew.freeze ⟨g,0,none⟩ l.length).tape=w.tape/\(w.drew.freeze ⟨g,0,none⟩ l.length).output=w.output:=by
   show _=(w.drew).os/\_=(w.drew).tape/\_=(w.drew).output
   generalize w.drew=wd
   simp[World.freeze,h0]
  refine⟨ad.1,ad.2.1,ad.2.2,ak,fun k hk ht=>aj k (fun e=>?_)⟩
  subst e
  rcases ht with ht | ht
  ·omega
  ·exact ht _ _ _ hg (by decide)
 have ar:(Tryz.prog).follows Departure.mixedOrders=true:=by kernel_rfl
 clear h ae al af
 go_enter Tryz.func69,Tryz.ntmps69
 go_wp2
 go_region_o
 all_goals (go_wp2;go_ret;exact⟨rfl,HK.o⟩)
theorem zfP {w:World}{wb:Nat}{p:Value}{op:Int}(aa:w.heap[wb]?=some (.cells #[p,.slice none 0 0,.int .i64 op] 143 (0,0))) :
  Calls Tryz.prog 69 #[.pointer (some ⟨wb,0,none⟩)] w fun e w'=>e = .returned (.string (R.str []))/\Kept wb wtags w w':=by
 have c1:w.drew.cell? ⟨wb,1,none⟩=some (.slice none 0 0):=by
  have h1:w.drew.heap[wb]?=some (.cells #[p,.slice none 0 0,.int .i64 op] 143 (0,0)):=aa
  exact zB h1
 have ab:(Builtin.unsafeSliceData_ #[32] 215 #[.slice none 0 0]).run Tryz.prog w.drew = .ok (.pointer none) w.drew:=rfl
 have ad:∀W:World,(Builtin.unsafeString_ #[215,3] 9 #[.pointer none,.int .i64 0]).run Tryz.prog W = .ok (.string ⟨#[]⟩) W:=fun W=>by kernel_rfl
 have ae:(Tryz.prog).follows Departure.mixedOrders=true:=by kernel_rfl
 have HK:Y (Kept wb wtags w w.drew):=xi (zg _)
 clear aa
 go_enter Tryz.func69,Tryz.ntmps69
 go_wp2
 go_region_o
 all_goals (go_wp2;go_ret;exact⟨rfl,HK.o⟩)
def GT (w:World):Prop:=Lib.TabIs Tryz.prog w "internal/strconv.uint64pow10" .u64 Lib.pow10Tab
theorem GT.block {w:World}(h:GT w):∃g,(Tryz.prog).globalNamed "internal/strconv.uint64pow10" = some g/\g<w.heap.size:=by
 unfold GT Lib.TabIs World.var? at h
 cases hg:(Tryz.prog).globalNamed "internal/strconv.uint64pow10" with
 | none=>rw[hg] at h;cases h
 | some g=>
  refine⟨g,rfl,?_⟩
  rw[hg] at h
  simp only[Option.bind_some] at h
  by_cases aa:g<w.heap.size
  ·exact aa
  ·rw[Array.getElem?_eq_none (by omega)] at h;cases h
theorem GT.same {w w':World}(h:GT w)(hb:∀g,(Tryz.prog).globalNamed "internal/strconv.uint64pow10" = some g->w'.heap[g]?=w.heap[g]?):GT w':=by
 unfold GT Lib.TabIs World.var? at*
 cases hg:(Tryz.prog).globalNamed "internal/strconv.uint64pow10" with
 | none=>rw[hg] at h;cases h
 | some g=>
  rw[hg] at h
  simp only[Option.bind_some] at h ⊢
  rw[hb g hg];exact h
theorem GT.grown {w w':World}(h:GT w)(hg:w.grownBy w' none):GT w':=h.same fun g e=>by
 obtain⟨g',e',hl⟩:=h.block
 obtain rfl:=x5 (e.symm.trans e')
 exact hg.block g hl (by simp)
def GTB (B:Nat):Prop:=∀g,(Tryz.prog).globalNamed "internal/strconv.uint64pow10" = some g->g<B
theorem GT.bound {w:World}(h:GT w):GTB w.heap.size:=fun g e=>by
 obtain⟨g',e',hl⟩:=h.block
 obtain rfl:=x5 (e.symm.trans e')
 exact hl
theorem GT.kept {w w':World}{B:Nat}{l:List TypeId}(h:GT w)(hk:Kept B l w w')(hB:GTB B):GT w':=h.same fun g e=>hk.block g (h.bound g e) (Or.inl (hB g e))
theorem zcC (w:World)(k:Nat)(os:Array Obj):w.grownBy (Sort.grow (w.drewN k) os) none:=by
 refine zD (jR w k) ?_
 generalize w.drewN k=u
 exact⟨rfl,rfl,rfl,by simp[Sort.grow],fun j hj _=>by simp[Sort.grow,Array.getElem?_append_left hj]⟩
theorem zjP {w:World}(hT:GT w)(n:Int)(hn:0<=n/\n<=99999):Calls Tryz.prog 159 #[.int .i64 n] w fun e w'=>e = .returned (.string (R.str (R.decI n)))/\w.grownBy w' none:=by
 refine(Tryz.strconv_Itoa n (by omega) (by omega) w hT).mono ?_
 rintro e w' ⟨rfl,k,os,rfl⟩
 refine⟨?_,zcC w k os⟩
 rw[zr2 n hn.1];rfl
theorem zlY (l:List (List UInt8×Int))(hs:∀t∈l,t.1.length<=3000/\0<=t.2/\t.2<=99999):(R.lnTgs l).length<=l.length*3200:=by
 have ht:∀t∈l,(R.lnTg t).length<=3100:=fun t ht=>by
  have h:=hs t ht
  have h5:=R.decI_len t.2 h.2
  unfold R.lnTg;simp only[zh,R.q_len,zoF,zmU];omega
 cases l with
 | nil=>simp[R.lnTgs]
 | cons t l=>
  have h3:=ht t (by simp)
  have h4:(l.map fun u=>[44,32]++R.lnTg u).flatten.length<=l.length*3200:=R.flat_len _ _ _ (fun u hu=>by
   have:=ht u (by simp[hu]);simp only[zh,zoF,zmU];omega)
  unfold R.lnTgs
  rw[zh,zoF,Nat.succ_mul];omega
theorem zdV (l:List (List UInt8))(x:List UInt8):zf (l++[x])=zf l++[.string (R.str x)]:=by simp[zf]
theorem zl2 (x:List UInt8)(n:Int):R.str (R.q x)++(⟨#[32]⟩:ByteArray)++R.str (R.decI n)=R.str (R.lnTg (x,n)):=by
 apply ByteArray.ext
 simp[R.str,R.lnTg]
theorem zk7 {w:World}(l:List (List UInt8×Int))(v:Value)(ah:w.ownsRow 0 285 2 v l.length (qB l))(hn:l.length<=4000)
  (hs:∀t∈l,t.1.length<=3000/\0<=t.2/\t.2<=99999) (hT:GT w) :
  Calls Tryz.prog 161 #[v] w fun e w'=>e = .returned (.string (R.str (R.lnTgs l)))/\w.grownBy w' none:=by
 obtain⟨i0,hi,ax,ay,az⟩:=info_parts fC
 obtain⟨va,vc,rfl⟩:=zO ah
 have HR:Y (w.ownsRow 0 285 2 (.slice va l.length vc) l.length (qB l)):=ah
 have HS:Y (∀t∈l,t.1.length<=3000/\0<=t.2/\t.2<=99999):=hs
 have HT:Y (GT w):=hT
 have ag:Y (∀W g aa,w.grownBy W none->W.ownsRow w.heap.size 9 1 (.slice (some ⟨g,0,none⟩) l.length aa) l.length (zf (l.map R.lnTg))->Calls Tryz.prog 220 #[.slice (some ⟨g,0,none⟩) l.length aa,.string ⟨#[44,32]⟩] W fun e w'=>e = .returned (.string (R.str (R.lnTgs l)))/\w.grownBy w' none):=fun W g aa hW ho=>by
  have e1:((l.map R.lnTg).map R.str).map (fun b=>b.data.toList)=l.map R.lnTg:=by
   rw[List.map_map]
   have:((fun b:ByteArray=>b.data.toList) ∘ R.str)=id:=by funext x;exact R.str_toList x
   rw[this,List.map_id]
  have hb:=(zx ho g rfl).2
  have hc:l.length<=aa:=by
   rcases ho.2 with ⟨h,_⟩ | ⟨g',cap',cur,h,_,_,h3,_⟩
   ·cases h
   ·cases h;exact h3
  have h:=Tryz.strings_Join g 0 aa ((l.map R.lnTg).map R.str) ⟨#[44,32]⟩ W (fun j x hx=>by
   have hj:j<l.length:=by have:=(List.getElem?_eq_some_iff.1 hx).1;simpa using this
   rw[Nat.zero_add,qR ho j (by omega)]
   unfold zf
   rw[List.getElem?_map] at hx ⊢
   cases hq:(l.map R.lnTg)[j]? with
   | none=>rw[hq] at hx;cases hx
   | some y=>rw[hq] at hx;simp at hx ⊢;exact hx) hb (by simp;omega) (by simpa using hc) (by
    rw[e1];show(Lib.join (l.map R.lnTg) [44,32]).length<=_;rw[zh7];have:=zlY l hs;omega)
  rw[e1,show(⟨#[44,32]⟩:ByteArray).data.toList=[44,32] from rfl,zh7,xW,xW] at h
  exact Calls.mono h fun e w' ⟨h1,h2⟩=>⟨h1,zD hW (qJ h2)⟩
 clear ah hs hT
 go_enter Tryz.func161,Tryz.ntmps161
 go_wp2_with (at_make;refine wpList_make_own _ rfl _ _ 22 rfl w.heap.size 9 i0 (.string ⟨#[]⟩) 1 Tryz.underlying22 hi ax ay _ _ _ l.length rfl rfl (by omega) ?b2 ?b3 (zw _) ?_)
 case b2=>rw[az];omega
 case b3=>unfold maxLen;omega
 intro w0 av aq
 have ak:Y (w0.ownsRow w.heap.size 9 1 (.slice (some ⟨w.heap.size,0,none⟩) 0 l.length) 0 (zf ((l.take 0).map R.lnTg))):=av
 have ai:Y _:=aq
 clear av aq
 go_wp2
 go_loopw [3,11] (fun sv iv wr=>∃k:Nat,k<=l.length/\iv = .int .i64 k/\(∃g aa,sv = .slice (some ⟨g,0,none⟩) k aa/\Y (wr.ownsRow w.heap.size 9 1 (.slice (some ⟨g,0,none⟩) k aa) k (zf ((l.take k).map R.lnTg))))/\Y (w.grownBy wr none)) (fun _ iv _=>l.length - (intOf iv).toNat)
 case atStart=>exact⟨0,zo _,rfl,⟨_,_,rfl,ak⟩,ai⟩
 case round=>
  obtain⟨k,hk,rfl,⟨g,aa,rfl,HO⟩,HG⟩:=hrel
  clear ak ai
  by_cases ad:k<l.length
  ·have aS:(k:Int)<l.length:=by omega
   obtain⟨gt,aM,au,_,aQ⟩:=World.ownsRow.form HR.o (by omega)
   simp only[qQ] at au
   obtain⟨rfl,_,rfl⟩:=au
   have d0:wr.cell? ⟨gt,k*2,none⟩=some (.string (R.str l[k].1)):=qx (fun t:List UInt8×Int=>[.string (R.str t.1),.int .i64 t.2]) 2 (fun _=>rfl) HR.o HG.o k 0 ad (by omega) rfl
   have d1:wr.cell? ⟨gt,k*2+1,none⟩=some (.int .i64 l[k].2):=qx (fun t:List UInt8×Int=>[.string (R.str t.1),.int .i64 t.2]) 2 (fun _=>rfl) HR.o HG.o k 1 ad (by omega) rfl
   have ab:=HS.o l[k] (List.getElem_mem ad)
   have aE:Y (zf ((l.take (k+1)).map R.lnTg)=zf ((l.take k).map R.lnTg)++[.string (R.str (R.lnTg l[k]))]):=by
    show _=_
    rw[uo ad,fJ,List.map_singleton,zdV]
   generalize l[k]=t at*
   obtain⟨x,n⟩:=t
   simp only at d0 d1 ab
   have HN:Y (0<=n/\n<=99999):=ab.2
   have zq:(R.str (R.q x)).size<=3002:=by rw[R.str_size,R.q_len];omega
   have zd:(R.str (R.decI n)).size<=5:=by rw[R.str_size];exact R.decI_len _ ab.2
   have aN:¬(9223372036854775807<(R.str (R.q x)).size+1):=by omega
   have aO:¬(9223372036854775807<(R.str (R.q x)).size+1+(R.str (R.decI n)).size):=by omega
   have HQ:Y (∀W,Calls Tryz.prog 105 #[.string (R.str x)] W fun e w'=>e = .returned (.string (R.str (R.q x)))/\w'=W):=fun W=>ym x W ab.1
   have HI:Y (∀W,w.grownBy W none->Calls Tryz.prog 159 #[.int .i64 n] W fun e w'=>e = .returned (.string (R.str (R.decI n)))/\W.grownBy w' none):=fun W hW=>zjP (HT.o.grown hW) n HN.o
   have ae:Y ((wr.alloc (.cells #[.string (R.str x),.int .i64 n] 285)).heap[wr.heap.size]?=some (.cells #[.string (R.str x),.int .i64 n] 285)):=heap_alloc_new _ _
   have af:Y (wr.grownBy (wr.alloc (.cells #[.string (R.str x),.int .i64 n] 285)) none):=zL _ _ _
   have aU:=HG.o.size
   have aR:g<wr.heap.size:=(zx HO.o g rfl).2
   clear ab HS ag
   have aJ:=J (zV HO.o af.o (fun k hk c=>by cases c))
   have aj:=J (zD HG.o af.o)
   have b0:=zuH ae.o
   have b1:=zuB ae.o
   have bl:=zI ae.o
   have aB:Y (∀u∈([.string (R.str (R.q x)++⟨#[32]⟩++R.str (R.decI n))]:List Value),u.oneCell'=true):=by
    intro u hu
    simp only[List.mem_cons,List.mem_nil_iff,or_false] at hu
    subst hu;rfl
   have aG:Y (k+1<=maxLen):=by show _<=_;unfold maxLen;omega
   have aC:Y (R.str (R.q x)++(⟨#[32]⟩:ByteArray)++R.str (R.decI n)=R.str (R.lnTg (x,n))):=zl2 x n
   go_wp2
   generalize wr.alloc (.cells #[.string (R.str x),.int .i64 n] 285)=wx at*
   clear d0 d1 HO HG HR af
   go_region_law (first | (refine step_append_lies _ rfl (.tmp 15) (.tmp 24) 22 rfl w.heap.size 9 i0 _ 1 16 Tryz.underlying22 hi ax ay az rfl (by decide) _ _ _ (by simp[Act.eval]) (qK am.o _) ⟨wN.heap.size,0,none⟩ 1 1 [.string (R.str (R.q x)++⟨#[32]⟩++R.str (R.decI n))] (by simp[Act.eval]) rfl aH.o aB.o (by decide) aG.o (by omega) aD.o (wN.heap.size+1) aK.o ?_;intro g9 an w9 aw ar aP aT;have ao:∀j,(Value.slice (some ⟨g,0,none⟩) k aa).ownBlock=some j->w.heap.size<=j:=fun j hj=>(zx am.o j hj).1;have C9:Y (w.grownBy w9 none):=qV (zD aA.o (zL _ _ _)) ar ao;have aI:Y (w9.ownsRow w.heap.size 9 1 (.slice (some ⟨g9,0,none⟩) (k+1) an) (k+1) (zf ((l.take (k+1)).map R.lnTg))):=by { show World.ownsRow _ _ _ _ _ _ _;rw[aE.o,<-aC.o];exact aw };clear aw ar ao) | (go_simp;go_at_call 159;refine(HI.o _ (zD aj.o (zg wx))).mono ?_;rintro e wN ⟨rfl,ap⟩;have GN:wx.grownBy wN none:=zD (zg wx) ap;have aA:=J (zD aj.o GN);have am:=J (zV aJ.o GN (fun k hk c=>by cases c));have sN:wx.heap.size<=wN.heap.size:=GN.size;have aH:Y (∀j u,([.string (R.str (R.q x)++⟨#[32]⟩++R.str (R.decI n))]:List Value)[j]?=some u->(wN.alloc (.cells #[.string (R.str (R.q x)++⟨#[32]⟩++R.str (R.decI n))] 9)).cell? ((⟨wN.heap.size,0,none⟩:Addr).add j)=some u):=zu wN #[_] _ _ rfl;have aD:Y (w.heap.size<=(wN.alloc (.cells #[.string (R.str (R.q x)++⟨#[32]⟩++R.str (R.decI n))] 9)).heap.size):=by { show _<=_;rw[show(wN.alloc (.cells #[.string (R.str (R.q x)++⟨#[32]⟩++R.str (R.decI n))] 9)).heap.size=wN.heap.size+1 from by simp];omega };have aK:Y ((wN.alloc (.cells #[.string (R.str (R.q x)++⟨#[32]⟩++R.str (R.decI n))] 9)).heap.size=wN.heap.size+1):=by { show _=_;simp };clear ap GN) | (go_simp;go_at_call 105;refine(HQ.o _).mono ?_;rintro e w' ⟨rfl,rfl⟩))
   all_goals
    go_wp2
    go_roundw
    case rel=>exact⟨k+1,by omega,by go_num,⟨g9,an,rfl,aI⟩,C9⟩
    case measure=>simp[intOf];omega
  ·have aL:k=l.length:=by omega
   subst aL
   have al:Y (wr.ownsRow w.heap.size 9 1 (.slice (some ⟨g,0,none⟩) l.length aa) l.length (zf (l.map R.lnTg))):=by
    have h:=HO.o
    rw[List.take_length] at h
    exact h
   have aF:Y (Calls Tryz.prog 220 #[.slice (some ⟨g,0,none⟩) l.length aa,.string ⟨#[44,32]⟩] wr fun e w'=>e = .returned (.string (R.str (R.lnTgs l)))/\w.grownBy w' none):=ag.o wr g aa HG.o al.o
   clear ag HO al HS HT HR
   go_wp2_with (go_at_call 220;refine aF.o.mono ?_;rintro e w2 ⟨rfl,h2⟩)
   go_ret
   exact⟨rfl,h2⟩
theorem jD {w w':World}{B B':Nat}{l:List TypeId}{e:TypeId}{s:Nat}{v:Value}{n:Nat}{xs:List Value}(h:w.ownsRow B e s v n xs)(hk:Kept B' l w w')(ht:e ∉ l):w'.ownsRow B e s v n xs:=by
 refine⟨h.1,?_⟩
 rcases h.2 with h | ⟨g,cap,cur,rfl,hB,hb,r⟩
 ·exact Or.inl h
 ·exact Or.inr ⟨g,cap,cur,rfl,hB,hk.cell hb ht,r⟩
theorem WInv.setOp {w:World}{wb:Nat}{l:List UInt8}{op:Int}(h:WInv w wb l op)(aa:Int):WInv (w.setCell ⟨wb,2,none⟩ (.int .i64 aa)) wb l aa/\Kept wb wtags w (w.setCell ⟨wb,2,none⟩ (.int .i64 aa)):=by
 have hg:=zG w wb 2 (.int .i64 aa)
 rcases h with ⟨v,hb,ho⟩ | ⟨v,hb,ho⟩
 ·exact⟨Or.inl ⟨v,zR hb _,zV ho hg (fun k hk e=>by have:=(zx ho k hk).1;cases e;omega)⟩,jx hg hb (by decide) (zw _)⟩
 ·exact⟨Or.inr ⟨v,zR hb _,zV ho hg (fun k hk e=>by have:=(zx ho k hk).1;cases e;omega)⟩,jx hg hb (by decide) (zw _)⟩
theorem WInv.fz {w:World}{wb:Nat}{l:List UInt8}{op:Int}(h:WInv w wb l op):w.frozen? ⟨wb,2,none⟩=false:=by
 rcases h with ⟨v,hb,ho⟩ | ⟨v,hb,ho⟩
 ·exact zH hb
 ·exact zH hb
theorem jU {w0 W:World}{wb:Nat}{l:List UInt8}{op:Nat}(h:WInv W wb l op)(hk:Kept wb wtags w0 W)(ps:List (List UInt8))(aa:op<=3)(hl:l.length<=100000000000000)(hp:ps.length<=10)(hf:ps.flatten.length<=100000000) :
  Calls Tryz.prog 104 #[.pointer (some ⟨wb,0,none⟩),.slice (some ⟨W.heap.size,0,none⟩) ps.length ps.length] (W.alloc (.cells (zf ps).toArray 9)) fun e w'=>e = .returned (.tuple #[])/\WInv w' wb (l++lnS op ps) op/\Kept wb wtags w0 w':=
 (zjG (op:=op) (h.grown (zL _ _ _)) W.heap.size ps.length ps (heap_alloc_new _ _) aa (by omega) (by omega)).mono fun e w' ⟨g1,g2,g3⟩=>⟨g1,g2,(hk.trans (xi (zL _ _ none))).trans g3⟩
theorem kD {α:Type}(f:α->List UInt8)(l:List α)(k:Nat)(hk:k<l.length)(aa:List UInt8):aa++((l.take (k+1)).map f).flatten=aa++((l.take k).map f).flatten++f l[k]:=by
 rw[jz f l k hk,x4]
theorem znH {w:World}{wb:Nat}{l:List UInt8}(h:WInv w wb l (1:Nat))(cs:List Value)(r:P.Rl)(hr:PRuleVal w cs r)(hs:R.Small (toRl r))(hl:l.length<=90000000000000)(hT:GT w)(hB:GTB wb) :
  Calls Tryz.prog 106 #[.pointer (some ⟨wb,0,none⟩),.agg cs.toArray] w fun e w'=>e = .returned (.tuple #[])/\WInv w' wb (l++R.lines (toRl r)) (1:Nat)/\Kept wb wtags w w':=by
 obtain⟨vM,vT,vS,vD,rfl,hM,aN,hS,hD⟩:=hr
 obtain⟨m1,m2,rfl⟩:=zO hM
 obtain⟨t1,t2,rfl⟩:=zO aN
 obtain⟨x1,x2,rfl⟩:=zO hS
 obtain⟨d1,d2,rfl⟩:=zO hD
 have gA:w.grownBy (w.alloc (.cells #[.int .i64 r.number,.string (R.str r.path),.slice m1 r.ms.length m2,.slice t1 r.tg.length t2,.string (R.str r.rep),.slice x1 r.sets.length x2,.slice d1 r.drops.length d2] 213)) none:=zL _ _ _
 have ag:Y ((w.alloc (.cells #[.int .i64 r.number,.string (R.str r.path),.slice m1 r.ms.length m2,.slice t1 r.tg.length t2,.string (R.str r.rep),.slice x1 r.sets.length x2,.slice d1 r.drops.length d2] 213)).heap[w.heap.size]?=some (.cells #[.int .i64 r.number,.string (R.str r.path),.slice m1 r.ms.length m2,.slice t1 r.tg.length t2,.string (R.str r.rep),.slice x1 r.sets.length x2,.slice d1 r.drops.length d2] 213)):=heap_alloc_new _ _
 have J0:Y (WInv (w.alloc (.cells #[.int .i64 r.number,.string (R.str r.path),.slice m1 r.ms.length m2,.slice t1 r.tg.length t2,.string (R.str r.rep),.slice x1 r.sets.length x2,.slice d1 r.drops.length d2] 213)) wb l (1:Nat)):=h.grown gA
 have aK:Y (GT (w.alloc (.cells #[.int .i64 r.number,.string (R.str r.path),.slice m1 r.ms.length m2,.slice t1 r.tg.length t2,.string (R.str r.rep),.slice x1 r.sets.length x2,.slice d1 r.drops.length d2] 213))):=hT.grown gA
 have bo:Y (GTB wb):=hB
 have aT:Y (Kept wb wtags w (w.alloc (.cells #[.int .i64 r.number,.string (R.str r.path),.slice m1 r.ms.length m2,.slice t1 r.tg.length t2,.string (R.str r.rep),.slice x1 r.sets.length x2,.slice d1 r.drops.length d2] 213))):=xi gA
 have HM:=J (zV hM gA (fun k hk c=>by cases c))
 have a3:=J (zV aN gA (fun k hk c=>by cases c))
 have an:=J (zV hS gA (fun k hk c=>by cases c))
 have ay:=J (zV hD gA (fun k hk c=>by cases c))
 have K0:Y (Kept wb wtags (w.alloc (.cells #[.int .i64 r.number,.string (R.str r.path),.slice m1 r.ms.length m2,.slice t1 r.tg.length t2,.string (R.str r.rep),.slice x1 r.sets.length x2,.slice d1 r.drops.length d2] 213)) (w.alloc (.cells #[.int .i64 r.number,.string (R.str r.path),.slice m1 r.ms.length m2,.slice t1 r.tg.length t2,.string (R.str r.rep),.slice x1 r.sets.length x2,.slice d1 r.drops.length d2] 213))):=Kept.refl _ _ _
 have aS:0<=r.number/\r.number<=99999:=hs.num
 have a0:Y (0<=r.number/\r.number<=99999):=aS
 have bq:r.path.length<=3000:=hs.path
 have br:r.rep.length<=3000:=hs.to
 have aL:Y (∀m∈r.ms,m.name.length<=3000/\m.val.length<=3000):=fun m hm=>hs.ms.2 (mtOf m) (List.mem_map_of_mem hm)
 have bC:r.ms.length<=4000:=by have:=hs.ms.1;simpa[toRl,rlOf] using this
 have aM:Y (∀t∈r.tg,t.1.length<=3000/\0<=t.2/\t.2<=99999):=hs.tg.2
 have bu:r.tg.length<=4000:=hs.tg.1
 have ap:Y (∀t∈r.sets,t.1.length<=3000/\t.2.length<=3000):=hs.sets.2
 have bE:r.sets.length<=4000:=hs.sets.1
 have ao:Y (∀t∈r.drops,t.length<=3000):=hs.drops.2
 have bB:r.drops.length<=4000:=hs.drops.1
 have bA:(R.decI r.number).length<=5:=R.decI_len _ aS
 have bt:=zlY r.tg aM.o
 have aX:Y (jw r++kT r++(r.ms.map fun m=>R.lnMt (mtOf m)).flatten++ki r++wW r++(r.sets.map R.lnSet).flatten++(r.drops.map R.lnDrop).flatten++lnS 1 [[125]]=R.lines (toRl r)):=zq2 r
 have HI:Y (Calls Tryz.prog 159 #[.int .i64 r.number] (w.alloc (.cells #[.int .i64 r.number,.string (R.str r.path),.slice m1 r.ms.length m2,.slice t1 r.tg.length t2,.string (R.str r.rep),.slice x1 r.sets.length x2,.slice d1 r.drops.length d2] 213)) fun e w'=>e = .returned (.string (R.str (R.decI r.number)))/\(w.alloc (.cells #[.int .i64 r.number,.string (R.str r.path),.slice m1 r.ms.length m2,.slice t1 r.tg.length t2,.string (R.str r.rep),.slice x1 r.sets.length x2,.slice d1 r.drops.length d2] 213)).grownBy w' none):=zjP aK.o r.number a0.o
 have a2:Y (∀W,Calls Tryz.prog 105 #[.string (R.str r.path)] W fun e w'=>e = .returned (.string (R.str (R.q r.path)))/\w'=W):=fun W=>ym r.path W bq
 have aJ:Y (∀W,Calls Tryz.prog 105 #[.string (R.str r.rep)] W fun e w'=>e = .returned (.string (R.str (R.q r.rep)))/\w'=W):=fun W=>ym r.rep W br
 clear h hT hB hM aN hS hD hs aS
 generalize R.lines (toRl r)=res at*
 go_enter Tryz.func106,Tryz.ntmps106
 go_wp2_with fail
 refine HI.o.mono ?_
 rintro e wI ⟨rfl,aO⟩
 have KI:Y (Kept wb wtags (w.alloc (.cells #[.int .i64 r.number,.string (R.str r.path),.slice m1 r.ms.length m2,.slice t1 r.tg.length t2,.string (R.str r.rep),.slice x1 r.sets.length x2,.slice d1 r.drops.length d2] 213)) wI):=K0.o.trans (xi aO)
 have JI:Y (WInv wI wb l (1:Nat)):=J0.o.grown aO
 have bF:=zI ag.o
 generalize w.alloc (.cells #[.int .i64 r.number,.string (R.str r.path),.slice m1 r.ms.length m2,.slice t1 r.tg.length t2,.string (R.str r.rep),.slice x1 r.sets.length x2,.slice d1 r.drops.length d2] 213)=wa at*
 clear aO HI gA J0 K0
 go_wp2_with fail
 have aU:Y (Calls Tryz.prog 104 #[.pointer (some ⟨wb,0,none⟩),.slice (some ⟨wI.heap.size,0,none⟩) 3 3] (wI.alloc (.cells #[.string ⟨#[114,117,108,101,32]⟩,.string (R.str (R.decI r.number)),.string ⟨#[32,123]⟩] 9)) fun e w'=>e = .returned (.tuple #[])/\WInv w' wb (l++jw r) (1:Nat)/\Kept wb wtags wa w'):=by
  have h:=jU JI.o KI.o [[114,117,108,101,32],R.decI r.number,[32,123]] (by decide) (by omega) (by simp) (by simp only[zf7,List.flatten_nil,zh,zoF,zmU];omega)
  exact h
 refine aU.o.mono ?_
 rintro e w1 ⟨rfl,bc,bh⟩
 have J1:Y (WInv w1 wb (l++jw r) (1:Nat)):=bc
 have K1:Y (Kept wb wtags wa w1):=bh
 clear bc bh aU
 have a4:=K1.o.cell ag.o (by decide)
 have bJ:w1.cell? ⟨w.heap.size,1,none⟩=some (.string (R.str r.path)):=zB a4
 clear a4
 have c1:w1.cell? ⟨wb,2,none⟩=some (.int .i64 1):=WInv.op J1.o
 have f1:w1.frozen? ⟨wb,2,none⟩=false:=WInv.fz J1.o
 obtain⟨bd,bi⟩:=WInv.setOp J1.o (2:Nat)
 have J2:Y (WInv (w1.setCell ⟨wb,2,none⟩ (.int .i64 2)) wb (l++jw r) (2:Nat)):=bd
 have K2:Y (Kept wb wtags wa (w1.setCell ⟨wb,2,none⟩ (.int .i64 2))):=K1.o.trans bi
 have bn:(l++jw r).length<=90000000001000:=by
  show(l++lnS 1 [[114,117,108,101,32],R.decI r.number,[32,123]]).length<=_
  unfold lnS
  simp only[zf7,List.flatten_nil,zh,zoF,zmU,List.length_replicate];omega
 clear bd bi J1 K1 JI KI
 have a5:=K2.o.cell ag.o (by decide)
 have bK:(w1.setCell ⟨wb,2,none⟩ (.int .i64 2)).cell? ⟨w.heap.size,1,none⟩=some (.string (R.str r.path)):=zB a5
 clear a5
 go_wp2_with fail
 refine(a2.o _).mono ?_
 rintro e wq ⟨rfl,ai⟩
 subst ai
 generalize w1.setCell ⟨wb,2,none⟩ (.int .i64 2)=w2 at*
 go_wp2_with fail
 have aV:Y (Calls Tryz.prog 104 #[.pointer (some ⟨wb,0,none⟩),.slice (some ⟨w2.heap.size,0,none⟩) 3 3] (w2.alloc (.cells #[.string ⟨#[112,97,116,104,32]⟩,.string (R.str (R.q r.path)),.string ⟨#[59]⟩] 9)) fun e w'=>e = .returned (.tuple #[])/\WInv w' wb (l++jw r++kT r) (2:Nat)/\Kept wb wtags wa w'):=by
  have h:=jU J2.o K2.o [[112,97,116,104,32],R.q r.path,[59]] (by decide) (by omega) (by simp) (by simp only[zf7,List.flatten_nil,zh,zoF,zmU,R.q_len];omega)
  exact h
 refine aV.o.mono ?_
 rintro e w3 ⟨rfl,be,bj⟩
 have J3:Y (WInv w3 wb (l++jw r++kT r) (2:Nat)):=be
 have K3:Y (Kept wb wtags wa w3):=bj
 clear be bj aV
 have bG:(l++jw r++kT r).length<=90000000010000:=by
  rw[zh]
  show _+(lnS 2 [[112,97,116,104,32],R.q r.path,[59]]).length<=_
  unfold lnS
  simp only[zf7,List.flatten_nil,zh,zoF,zmU,List.length_replicate,R.q_len] at bn ⊢;omega
 have a1:Y (l++res=(l++jw r++kT r)++((r.ms.map fun m=>R.lnMt (mtOf m)).flatten++ki r++wW r++(r.sets.map R.lnSet).flatten++(r.drops.map R.lnDrop).flatten++lnS 1 [[125]])):=by
  show _=_
  rw[<-aX.o];simp only[x4]
 generalize l++jw r++kT r=pre at*
 clear J2 K2 bn a2 a0 aX c1 f1
 have a6:=K3.o.cell ag.o (by decide)
 have bL:w3.cell? ⟨w.heap.size,2,none⟩=some (.slice m1 r.ms.length m2):=zB a6
 clear a6
 go_wp2_with fail
 go_loopw [32] (fun iv wr=>∃k:Nat,k<=r.ms.length/\iv = .int .i64 k/\Y (WInv wr wb (pre++((r.ms.take k).map (fun m=>R.lnMt (mtOf m))).flatten) (2:Nat))/\(pre++((r.ms.take k).map (fun m=>R.lnMt (mtOf m))).flatten).length<=90000000010000+6100*k/\Y (Kept wb wtags wa wr)) (fun iv _=>r.ms.length - (intOf iv).toNat)
 case atStart=>exact⟨0,zo _,rfl,by rw[List.take_zero,List.map_nil,List.flatten_nil,zb3];exact J3,by rw[List.take_zero,List.map_nil,List.flatten_nil,zb3];omega,K3⟩
 case round=>
  obtain⟨k,hk,rfl,JR,af,KR⟩:=hrel
  clear J3 K3
  by_cases aa:k<r.ms.length
  ·have aC:(k:Int)<r.ms.length:=by omega
   obtain⟨gm,aA,ae,_,aB⟩:=World.ownsRow.form HM.o (by omega)
   simp only[qQ] at ae
   obtain⟨rfl,_,rfl⟩:=ae
   have ab:=jD HM.o KR.o (by decide)
   have e0:wr.cell? ⟨gm,k*3,none⟩=some (.string (R.str r.ms[k].name)):=qx P.Mt.cells 3 (fun _=>rfl) ab (ze _ _) k 0 aa (by omega) rfl
   have e1:wr.cell? ⟨gm,k*3+1,none⟩=some (.bool r.ms[k].ask):=qx P.Mt.cells 3 (fun _=>rfl) ab (ze _ _) k 1 aa (by omega) rfl
   have e2:wr.cell? ⟨gm,k*3+2,none⟩=some (.string (R.str r.ms[k].val)):=qx P.Mt.cells 3 (fun _=>rfl) ab (ze _ _) k 2 aa (by omega) rfl
   clear ab
   have aR:=aL.o r.ms[k] (List.getElem_mem aa)
   have ad:=kD (fun m=>R.lnMt (mtOf m)) r.ms k aa pre
   have bp:(R.lnMt (mtOf r.ms[k])).length<=6100:=by
    unfold R.lnMt mtOf;split <;> simp only[zh,R.q_len,zoF,zmU] <;> omega
   have aZ:Y (Calls Tryz.prog 160 #[.pointer (some ⟨wb,0,none⟩),.agg #[.string (R.str r.ms[k].name),.bool r.ms[k].ask,.string (R.str r.ms[k].val)]] (wr.alloc (.cells #[.string (R.str r.ms[k].name),.bool r.ms[k].ask,.string (R.str r.ms[k].val)] 276)) fun e w'=>e = .returned (.tuple #[])/\WInv w' wb (pre++((r.ms.take (k+1)).map (fun m=>R.lnMt (mtOf m))).flatten) (2:Nat)/\Kept wb wtags wa w'/\(pre++((r.ms.take (k+1)).map (fun m=>R.lnMt (mtOf m))).flatten).length<=90000000010000+6100*(k+1)):=by
    refine(zlC (JR.o.grown (zL _ _ none)) r.ms[k] aR.1 aR.2 (by omega)).mono ?_
    rintro e w' ⟨rfl,q1,q2⟩
    rw[ad]
    exact⟨rfl,q1,(KR.o.trans (xi (zL _ _ none))).trans q2,by rw[zh];omega⟩
   clear ad bp aR aL
   generalize r.ms[k]=m at*
   obtain⟨mn,ma,mv⟩:=m
   simp only at e0 e1 e2 aZ
   go_wp2_with (go_at_call 160;refine aZ.o.mono ?_;rintro e w2 ⟨rfl,h2,h3,h4⟩)
   go_roundw
   case rel=>exact⟨k+1,by omega,by go_num,h2,h4,h3⟩
   case measure=>simp[intOf];omega
  ·have HE:k=r.ms.length:=by omega
   subst HE
   rw[List.take_length] at JR af
   have az:Y (l++res=(pre++(r.ms.map (fun m=>R.lnMt (mtOf m))).flatten)++(ki r++wW r++(r.sets.map R.lnSet).flatten++(r.drops.map R.lnDrop).flatten++lnS 1 [[125]])):=by
    show _=_
    rw[a1.o];simp only[x4]
   clear a1 HM aL
   generalize pre++(r.ms.map (fun m=>R.lnMt (mtOf m))).flatten=pre2 at*
   have bH:pre2.length<=90000100000000:=by omega
   clear af
   have a7:=KR.o.cell ag.o (by decide)
   have bM:wr.cell? ⟨w.heap.size,3,none⟩=some (.slice t1 r.tg.length t2):=zB a7
   clear a7
   have aW:Y (Calls Tryz.prog 161 #[.slice t1 r.tg.length t2] wr fun e w'=>e = .returned (.string (R.str (R.lnTgs r.tg)))/\wr.grownBy w' none):=zk7 r.tg _ (jD a3.o KR.o (by decide)) bu aM.o (aK.o.kept KR.o bo.o)
   go_wp2_with fail
   refine aW.o.mono ?_
   rintro e wL ⟨rfl,aP⟩
   have KL:Y (Kept wb wtags wa wL):=KR.o.trans (xi aP)
   have JL:Y (WInv wL wb pre2 (2:Nat)):=WInv.grown JR.o aP
   clear aP aW a3 aM aK JR KR
   go_wp2_with fail
   have al:Y (Calls Tryz.prog 104 #[.pointer (some ⟨wb,0,none⟩),.slice (some ⟨wL.heap.size,0,none⟩) 3 3] (wL.alloc (.cells #[.string ⟨#[116,111,32]⟩,.string (R.str (R.lnTgs r.tg)),.string ⟨#[59]⟩] 9)) fun e w'=>e = .returned (.tuple #[])/\WInv w' wb (pre2++ki r) (2:Nat)/\Kept wb wtags wa w'):=by
    have h:=jU JL.o KL.o [[116,111,32],R.lnTgs r.tg,[59]] (by decide) (by omega) (by simp) (by simp only[zf7,List.flatten_nil,zh,zoF,zmU];omega)
    exact h
   refine al.o.mono ?_
   rintro e w5 ⟨rfl,bf,bk⟩
   have J5:Y (WInv w5 wb (pre2++ki r) (2:Nat)):=bf
   have K5:Y (Kept wb wtags wa w5):=bk
   clear bf bk al
   have bv:(pre2++ki r).length<=90000200000000:=by
    rw[zh]
    show _+(lnS 2 [[116,111,32],R.lnTgs r.tg,[59]]).length<=_
    unfold lnS
    simp only[zf7,List.flatten_nil,zh,zoF,zmU,List.length_replicate];omega
   clear KL JL bt
   by_cases aq:r.rep=[]
   ·have bD:R.str r.rep=⟨#[]⟩:=by rw[aq];rfl
    have am:Y (l++res=(pre2++ki r)++((r.sets.map R.lnSet).flatten++(r.drops.map R.lnDrop).flatten++lnS 1 [[125]])):=by
     show _=_
     rw[az.o];unfold wW;rw[if_pos aq];simp only[x4,List.nil_append]
    have ak:Y (wa.ownsRow 0 9 1 (.slice d1 r.drops.length d2) r.drops.length (r.drops.map fun s=>[Value.string (R.str s)]).flatten):=strRow1 ay.o
    clear az ay aJ aq
    generalize pre2++ki r=pre at*
    have au:=K5.o.cell ag.o (by decide)
    have bx:w5.cell? ⟨w.heap.size,4,none⟩=some (.string (R.str r.rep)):=zB au
    clear au
    have a9:=K5.o.cell ag.o (by decide)
    have bO:w5.cell? ⟨w.heap.size,5,none⟩=some (.slice x1 r.sets.length x2):=zB a9
    clear a9
    go_wp2_with fail
    go_loopw [58] (fun iv wr=>∃k:Nat,k<=r.sets.length/\iv = .int .i64 k/\Y (WInv wr wb (pre++((r.sets.take k).map R.lnSet).flatten) (2:Nat))/\(pre++((r.sets.take k).map R.lnSet).flatten).length<=90000300000000+6100*k/\Y (Kept wb wtags wa wr)) (fun iv _=>r.sets.length - (intOf iv).toNat)
    case atStart=>exact⟨0,zo _,rfl,by rw[List.take_zero,List.map_nil,List.flatten_nil,zb3];exact J5,by rw[List.take_zero,List.map_nil,List.flatten_nil,zb3];omega,K5⟩
    case round=>
     obtain⟨k,hk,rfl,JR,af,KR⟩:=hrel
     clear J5 K5
     by_cases aa:k<r.sets.length
     ·have aC:(k:Int)<r.sets.length:=by omega
      obtain⟨gm,aA,ae,_,aB⟩:=World.ownsRow.form an.o (by omega)
      simp only[qQ] at ae
      obtain⟨rfl,_,rfl⟩:=ae
      have ab:=jD an.o KR.o (by decide)
      have e0:wr.cell? ⟨gm,k*2,none⟩=some (.string (R.str r.sets[k].1)):=qx (fun t:List UInt8×List UInt8=>[.string (R.str t.1),.string (R.str t.2)]) 2 (fun _=>rfl) ab (ze _ _) k 0 aa (by omega) rfl
      have e1:wr.cell? ⟨gm,k*2+1,none⟩=some (.string (R.str r.sets[k].2)):=qx (fun t:List UInt8×List UInt8=>[.string (R.str t.1),.string (R.str t.2)]) 2 (fun _=>rfl) ab (ze _ _) k 1 aa (by omega) rfl
      clear ab
      have aj:=ap.o r.sets[k] (List.getElem_mem aa)
      have ad:=kD R.lnSet r.sets k aa pre
      generalize bs:r.sets[k]=st at*
      obtain⟨sh,sv⟩:=st
      simp only at e0 e1 aj
      have aG:Y (∀W,Calls Tryz.prog 105 #[.string (R.str sh)] W fun e w'=>e = .returned (.string (R.str (R.q sh)))/\w'=W):=fun W=>ym sh W aj.1
      have aH:Y (∀W,Calls Tryz.prog 105 #[.string (R.str sv)] W fun e w'=>e = .returned (.string (R.str (R.q sv)))/\w'=W):=fun W=>ym sv W aj.2
      have ah:Y ((wr.alloc (.cells #[.string (R.str sh),.string (R.str sv)] 280)).heap[wr.heap.size]?=some (.cells #[.string (R.str sh),.string (R.str sv)] 280)):=heap_alloc_new _ _
      have b0:=zuH ah.o
      have b1:=zuB ah.o
      have al:Y (Calls Tryz.prog 104 #[.pointer (some ⟨wb,0,none⟩),.slice (some ⟨wr.heap.size+1,0,none⟩) 5 5] (((wr.alloc (.cells #[.string (R.str sh),.string (R.str sv)] 280)).drew).alloc (.cells #[.string ⟨#[115,101,116,32]⟩,.string (R.str (R.q sh)),.string ⟨#[32,61,32]⟩,.string (R.str (R.q sv)),.string ⟨#[59]⟩] 9)) fun e w'=>e = .returned (.tuple #[])/\WInv w' wb (pre++((r.sets.take (k+1)).map R.lnSet).flatten) (2:Nat)/\Kept wb wtags wa w'/\(pre++((r.sets.take (k+1)).map R.lnSet).flatten).length<=90000300000000+6100*(k+1)/\w'.cell? ⟨wr.heap.size,0,none⟩=some (.string (R.str sh))/\w'.cell? ⟨wr.heap.size,1,none⟩=some (.string (R.str sv))):=by
       have gD:wr.grownBy (wr.alloc (.cells #[.string (R.str sh),.string (R.str sv)] 280)).drew none:=zD (zL _ _ none) (zg _)
       have h:=jU (w0:=(wr.alloc (.cells #[.string (R.str sh),.string (R.str sv)] 280)).drew) (JR.o.grown gD) (Kept.refl _ _ _) [[115,101,116,32],R.q sh,[32,61,32],R.q sv,[59]] (by decide) (by omega) (by simp) (by simp only[zf7,List.flatten_nil,zh,zoF,zmU,R.q_len];omega)
       rw[show((wr.alloc (.cells #[.string (R.str sh),.string (R.str sv)] 280)).drew).heap.size=wr.heap.size+1 by simp[World.drew]] at h
       have aQ:(R.lnSet (sh,sv)).length<=6100:=by
        unfold R.lnSet;simp only[zh,R.q_len,zoF,zmU];omega
       rw[ad]
       refine Calls.mono h fun e w' ⟨q1,q2,q3⟩=>⟨q1,?_,(KR.o.trans (xi gD)).trans q3,by rw[zh];omega,zB (q3.cell (c:=#[.string (R.str sh),.string (R.str sv)]) ah.o (by decide)),zB (q3.cell (c:=#[.string (R.str sh),.string (R.str sv)]) ah.o (by decide))⟩
       rw[zqM (sh,sv)] at q2;exact q2
      clear ad aj ap JR KR ah
      go_wp2_with fail
      go_region_held3 (fun W=>W.cell? ⟨wr.heap.size,0,none⟩=some (.string (R.str sh))/\W.cell? ⟨wr.heap.size,1,none⟩=some (.string (R.str sv))) (go_keep) (first
       | (go_at_call 105;refine(aG.o _).mono ?_;rintro e w' ⟨rfl,rfl⟩)
       | (go_at_call 105;refine(aH.o _).mono ?_;rintro e w' ⟨rfl,rfl⟩)
       | (go_at_call 104;refine al.o.mono ?_;rintro e w3 ⟨rfl,h2,h3,h4,g4,g5⟩))
      all_goals
       go_wp2
       go_roundw
       case rel=>exact⟨k+1,by omega,by go_num,h2,h4,h3⟩
       case measure=>simp[intOf];omega
     ·have HE:k=r.sets.length:=by omega
      subst HE
      rw[List.take_length] at JR af
      have ar:Y (l++res=(pre++(r.sets.map R.lnSet).flatten)++((r.drops.map R.lnDrop).flatten++lnS 1 [[125]])):=by
       show _=_
       rw[am.o];simp only[x4]
      clear am an ap
      generalize pre++(r.sets.map R.lnSet).flatten=pre at*
      have bw:pre.length<=90000400000000:=by omega
      have J6:Y (WInv wr wb pre (2:Nat)):=JR
      have K6:Y (Kept wb wtags wa wr):=KR
      clear af JR KR hk
      have a8:=K6.o.cell ag.o (by decide)
      have bN:wr.cell? ⟨w.heap.size,6,none⟩=some (.slice d1 r.drops.length d2):=zB a8
      clear a8
      go_wp2_with fail
      go_loopw [75] (fun iv wr=>∃k:Nat,k<=r.drops.length/\iv = .int .i64 k/\Y (WInv wr wb (pre++((r.drops.take k).map R.lnDrop).flatten) (2:Nat))/\(pre++((r.drops.take k).map R.lnDrop).flatten).length<=90000400000000+6100*k/\Y (Kept wb wtags wa wr)) (fun iv _=>r.drops.length - (intOf iv).toNat)
      case atStart=>exact⟨0,zo _,rfl,by rw[List.take_zero,List.map_nil,List.flatten_nil,zb3];exact J6,by rw[List.take_zero,List.map_nil,List.flatten_nil,zb3];omega,K6⟩
      case round=>
       obtain⟨k,hk,rfl,JR,af,KR⟩:=hrel
       clear J6 K6
       by_cases aa:k<r.drops.length
       ·have aC:(k:Int)<r.drops.length:=by omega
        obtain⟨gm,aA,ae,_,aB⟩:=World.ownsRow.form ak.o (by omega)
        simp only[qQ] at ae
        obtain⟨rfl,_,rfl⟩:=ae
        have ab:=jD ak.o KR.o (by decide)
        have e0:wr.cell? ⟨gm,k*1,none⟩=some (.string (R.str r.drops[k])):=qx (fun s=>[Value.string (R.str s)]) 1 (fun _=>rfl) ab (ze _ _) k 0 aa (by omega) rfl
        clear ab
        rw[Nat.mul_one] at e0
        have ax:=ao.o r.drops[k] (List.getElem_mem aa)
        have ad:=kD R.lnDrop r.drops k aa pre
        generalize r.drops[k]=dk at*
        have aI:Y (∀W,Calls Tryz.prog 105 #[.string (R.str dk)] W fun e w'=>e = .returned (.string (R.str (R.q dk)))/\w'=W):=fun W=>ym dk W ax
        have aE:Y (Calls Tryz.prog 104 #[.pointer (some ⟨wb,0,none⟩),.slice (some ⟨wr.heap.size,0,none⟩) 3 3] (wr.alloc (.cells #[.string ⟨#[100,114,111,112,32]⟩,.string (R.str (R.q dk)),.string ⟨#[59]⟩] 9)) fun e w'=>e = .returned (.tuple #[])/\WInv w' wb (pre++((r.drops.take (k+1)).map R.lnDrop).flatten) (2:Nat)/\Kept wb wtags wa w'/\(pre++((r.drops.take (k+1)).map R.lnDrop).flatten).length<=90000400000000+6100*(k+1)):=by
         have h:=jU JR.o KR.o [[100,114,111,112,32],R.q dk,[59]] (by decide) (by omega) (by simp) (by simp only[zf7,List.flatten_nil,zh,zoF,zmU,R.q_len];omega)
         have aQ:(R.lnDrop dk).length<=6100:=by
          unfold R.lnDrop;simp only[zh,R.q_len,zoF,zmU];omega
         rw[ad]
         refine Calls.mono h fun e w' ⟨q1,q2,q3⟩=>⟨q1,?_,q3,by rw[zh];omega⟩
         rw[zlW dk] at q2;exact q2
        clear ad ax ao JR KR
        go_wp2_with fail
        refine(aI.o _).mono ?_
        rintro e wq ⟨rfl,ai⟩
        rw[ai]
        clear ai wq
        go_wp2_with fail
        refine aE.o.mono ?_
        rintro e w7 ⟨rfl,h2,h3,h4⟩
        go_wp2
        go_roundw
        case rel=>exact⟨k+1,by omega,by go_num,h2,h4,h3⟩
        case measure=>simp[intOf];omega
       ·have HE:k=r.drops.length:=by omega
        subst HE
        rw[List.take_length] at JR af
        have aF:Y (l++res=(pre++(r.drops.map R.lnDrop).flatten)++lnS 1 [[125]]):=by
         show _=_
         rw[ar.o];simp only[x4]
        clear ar ak ao
        generalize pre++(r.drops.map R.lnDrop).flatten=pre8 at*
        have c8:wr.cell? ⟨wb,2,none⟩=some (.int .i64 2):=WInv.op JR.o
        have f8:wr.frozen? ⟨wb,2,none⟩=false:=WInv.fz JR.o
        obtain⟨av,aw⟩:=WInv.setOp JR.o (1:Nat)
        have J8:Y (WInv (wr.setCell ⟨wb,2,none⟩ (.int .i64 1)) wb pre8 (1:Nat)):=av
        have K8:Y (Kept wb wtags wa (wr.setCell ⟨wb,2,none⟩ (.int .i64 1))):=KR.o.trans aw
        clear av aw JR KR
        have aD:Y (Calls Tryz.prog 104 #[.pointer (some ⟨wb,0,none⟩),.slice (some ⟨wr.heap.size,0,none⟩) 1 1] ((wr.setCell ⟨wb,2,none⟩ (.int .i64 1)).alloc (.cells #[.string ⟨#[125]⟩] 9)) fun e w'=>e = .returned (.tuple #[])/\WInv w' wb (pre8++lnS 1 [[125]]) (1:Nat)/\Kept wb wtags wa w'):=by
         have h:=jU J8.o K8.o [[125]] (by decide) (by omega) (by simp) (by simp)
         rw[show(wr.setCell ⟨wb,2,none⟩ (.int .i64 1)).heap.size=wr.heap.size by simp[World.setCell]] at h
         exact h
        go_wp2_with fail
        refine aD.o.mono ?_
        rintro e w9 ⟨rfl,h2,h3⟩
        go_wp2
        go_end0
        rw[aF.o]
        exact⟨rfl,h2,aT.o.trans h3⟩
   ·have am:Y (l++res=(pre2++ki r++wW r)++((r.sets.map R.lnSet).flatten++(r.drops.map R.lnDrop).flatten++lnS 1 [[125]])):=by
     show _=_
     rw[az.o];simp only[x4]
    have bm:wW r=lnS 2 [[114,101,112,108,97,99,101,32],R.q r.rep,[59]]:=by unfold wW;rw[if_neg aq]
    have ak:Y (wa.ownsRow 0 9 1 (.slice d1 r.drops.length d2) r.drops.length (r.drops.map fun s=>[Value.string (R.str s)]).flatten):=strRow1 ay.o
    rw[bm] at am
    have bz:(R.str r.rep).toList.isEmpty=false:=by
     rw[ByteArray.toList_eq,R.str_toList]
     cases h:r.rep with
     | nil=>exact absurd h aq
     | cons _ _=>rfl
    clear az ay bm aq
    have au:=K5.o.cell ag.o (by decide)
    have bx:w5.cell? ⟨w.heap.size,4,none⟩=some (.string (R.str r.rep)):=zB au
    clear au
    go_wp2_with fail
    refine(aJ.o _).mono ?_
    rintro e wq ⟨rfl,ai⟩
    rw[ai]
    clear ai wq
    go_wp2_with fail
    have aY:Y (Calls Tryz.prog 104 #[.pointer (some ⟨wb,0,none⟩),.slice (some ⟨w5.heap.size,0,none⟩) 3 3] (w5.alloc (.cells #[.string ⟨#[114,101,112,108,97,99,101,32]⟩,.string (R.str (R.q r.rep)),.string ⟨#[59]⟩] 9)) fun e w'=>e = .returned (.tuple #[])/\WInv w' wb (pre2++ki r++lnS 2 [[114,101,112,108,97,99,101,32],R.q r.rep,[59]]) (2:Nat)/\Kept wb wtags wa w'):=by
     have h:=jU J5.o K5.o [[114,101,112,108,97,99,101,32],R.q r.rep,[59]] (by decide) (by omega) (by simp) (by simp only[zf7,List.flatten_nil,zh,zoF,zmU,R.q_len];omega)
     exact h
    refine aY.o.mono ?_
    rintro e wp ⟨rfl,bg,bl⟩
    have Jp:Y (WInv wp wb (pre2++ki r++lnS 2 [[114,101,112,108,97,99,101,32],R.q r.rep,[59]]) (2:Nat)):=bg
    have Kp:Y (Kept wb wtags wa wp):=bl
    clear bg bl aY
    have bI:(pre2++ki r++lnS 2 [[114,101,112,108,97,99,101,32],R.q r.rep,[59]]).length<=90000300000000:=by
     rw[zh]
     unfold lnS
     simp only[zf7,List.flatten_nil,zh,zoF,zmU,List.length_replicate,R.q_len] at bv ⊢;omega
    generalize pre2++ki r++lnS 2 [[114,101,112,108,97,99,101,32],R.q r.rep,[59]]=pre at*
    clear J5 K5 aJ
    have bb:=Kp.o.cell ag.o (by decide)
    have bQ:wp.cell? ⟨w.heap.size,5,none⟩=some (.slice x1 r.sets.length x2):=zB bb
    clear bb
    go_wp2_with fail
    go_loopw [58] (fun iv wr=>∃k:Nat,k<=r.sets.length/\iv = .int .i64 k/\Y (WInv wr wb (pre++((r.sets.take k).map R.lnSet).flatten) (2:Nat))/\(pre++((r.sets.take k).map R.lnSet).flatten).length<=90000300000000+6100*k/\Y (Kept wb wtags wa wr)) (fun iv _=>r.sets.length - (intOf iv).toNat)
    case atStart=>exact⟨0,zo _,rfl,by rw[List.take_zero,List.map_nil,List.flatten_nil,zb3];exact Jp,by rw[List.take_zero,List.map_nil,List.flatten_nil,zb3];omega,Kp⟩
    case round=>
     obtain⟨k,hk,rfl,JR,af,KR⟩:=hrel
     clear Jp Kp
     by_cases aa:k<r.sets.length
     ·have aC:(k:Int)<r.sets.length:=by omega
      obtain⟨gm,aA,ae,_,aB⟩:=World.ownsRow.form an.o (by omega)
      simp only[qQ] at ae
      obtain⟨rfl,_,rfl⟩:=ae
      have ab:=jD an.o KR.o (by decide)
      have e0:wr.cell? ⟨gm,k*2,none⟩=some (.string (R.str r.sets[k].1)):=qx (fun t:List UInt8×List UInt8=>[.string (R.str t.1),.string (R.str t.2)]) 2 (fun _=>rfl) ab (ze _ _) k 0 aa (by omega) rfl
      have e1:wr.cell? ⟨gm,k*2+1,none⟩=some (.string (R.str r.sets[k].2)):=qx (fun t:List UInt8×List UInt8=>[.string (R.str t.1),.string (R.str t.2)]) 2 (fun _=>rfl) ab (ze _ _) k 1 aa (by omega) rfl
      clear ab
      have aj:=ap.o r.sets[k] (List.getElem_mem aa)
      have ad:=kD R.lnSet r.sets k aa pre
      generalize bs:r.sets[k]=st at*
      obtain⟨sh,sv⟩:=st
      simp only at e0 e1 aj
      have aG:Y (∀W,Calls Tryz.prog 105 #[.string (R.str sh)] W fun e w'=>e = .returned (.string (R.str (R.q sh)))/\w'=W):=fun W=>ym sh W aj.1
      have aH:Y (∀W,Calls Tryz.prog 105 #[.string (R.str sv)] W fun e w'=>e = .returned (.string (R.str (R.q sv)))/\w'=W):=fun W=>ym sv W aj.2
      have ah:Y ((wr.alloc (.cells #[.string (R.str sh),.string (R.str sv)] 280)).heap[wr.heap.size]?=some (.cells #[.string (R.str sh),.string (R.str sv)] 280)):=heap_alloc_new _ _
      have b0:=zuH ah.o
      have b1:=zuB ah.o
      have al:Y (Calls Tryz.prog 104 #[.pointer (some ⟨wb,0,none⟩),.slice (some ⟨wr.heap.size+1,0,none⟩) 5 5] (((wr.alloc (.cells #[.string (R.str sh),.string (R.str sv)] 280)).drew).alloc (.cells #[.string ⟨#[115,101,116,32]⟩,.string (R.str (R.q sh)),.string ⟨#[32,61,32]⟩,.string (R.str (R.q sv)),.string ⟨#[59]⟩] 9)) fun e w'=>e = .returned (.tuple #[])/\WInv w' wb (pre++((r.sets.take (k+1)).map R.lnSet).flatten) (2:Nat)/\Kept wb wtags wa w'/\(pre++((r.sets.take (k+1)).map R.lnSet).flatten).length<=90000300000000+6100*(k+1)/\w'.cell? ⟨wr.heap.size,0,none⟩=some (.string (R.str sh))/\w'.cell? ⟨wr.heap.size,1,none⟩=some (.string (R.str sv))):=by
       have gD:wr.grownBy (wr.alloc (.cells #[.string (R.str sh),.string (R.str sv)] 280)).drew none:=zD (zL _ _ none) (zg _)
       have h:=jU (w0:=(wr.alloc (.cells #[.string (R.str sh),.string (R.str sv)] 280)).drew) (JR.o.grown gD) (Kept.refl _ _ _) [[115,101,116,32],R.q sh,[32,61,32],R.q sv,[59]] (by decide) (by omega) (by simp) (by simp only[zf7,List.flatten_nil,zh,zoF,zmU,R.q_len];omega)
       rw[show((wr.alloc (.cells #[.string (R.str sh),.string (R.str sv)] 280)).drew).heap.size=wr.heap.size+1 by simp[World.drew]] at h
       have aQ:(R.lnSet (sh,sv)).length<=6100:=by
        unfold R.lnSet;simp only[zh,R.q_len,zoF,zmU];omega
       rw[ad]
       refine Calls.mono h fun e w' ⟨q1,q2,q3⟩=>⟨q1,?_,(KR.o.trans (xi gD)).trans q3,by rw[zh];omega,zB (q3.cell (c:=#[.string (R.str sh),.string (R.str sv)]) ah.o (by decide)),zB (q3.cell (c:=#[.string (R.str sh),.string (R.str sv)]) ah.o (by decide))⟩
       rw[zqM (sh,sv)] at q2;exact q2
      clear ad aj ap JR KR ah
      go_wp2_with fail
      go_region_held3 (fun W=>W.cell? ⟨wr.heap.size,0,none⟩=some (.string (R.str sh))/\W.cell? ⟨wr.heap.size,1,none⟩=some (.string (R.str sv))) (go_keep) (first
       | (go_at_call 105;refine(aG.o _).mono ?_;rintro e w' ⟨rfl,rfl⟩)
       | (go_at_call 105;refine(aH.o _).mono ?_;rintro e w' ⟨rfl,rfl⟩)
       | (go_at_call 104;refine al.o.mono ?_;rintro e w3 ⟨rfl,h2,h3,h4,g4,g5⟩))
      all_goals
       go_wp2
       go_roundw
       case rel=>exact⟨k+1,by omega,by go_num,h2,h4,h3⟩
       case measure=>simp[intOf];omega
     ·have HE:k=r.sets.length:=by omega
      subst HE
      rw[List.take_length] at JR af
      have ar:Y (l++res=(pre++(r.sets.map R.lnSet).flatten)++((r.drops.map R.lnDrop).flatten++lnS 1 [[125]])):=by
       show _=_
       rw[am.o];simp only[x4]
      clear am an ap
      generalize pre++(r.sets.map R.lnSet).flatten=pre at*
      have bw:pre.length<=90000400000000:=by omega
      have J6:Y (WInv wr wb pre (2:Nat)):=JR
      have K6:Y (Kept wb wtags wa wr):=KR
      clear af JR KR hk
      have ba:=K6.o.cell ag.o (by decide)
      have bP:wr.cell? ⟨w.heap.size,6,none⟩=some (.slice d1 r.drops.length d2):=zB ba
      clear ba
      go_wp2_with fail
      go_loopw [75] (fun iv wr=>∃k:Nat,k<=r.drops.length/\iv = .int .i64 k/\Y (WInv wr wb (pre++((r.drops.take k).map R.lnDrop).flatten) (2:Nat))/\(pre++((r.drops.take k).map R.lnDrop).flatten).length<=90000400000000+6100*k/\Y (Kept wb wtags wa wr)) (fun iv _=>r.drops.length - (intOf iv).toNat)
      case atStart=>exact⟨0,zo _,rfl,by rw[List.take_zero,List.map_nil,List.flatten_nil,zb3];exact J6,by rw[List.take_zero,List.map_nil,List.flatten_nil,zb3];omega,K6⟩
      case round=>
       obtain⟨k,hk,rfl,JR,af,KR⟩:=hrel
       clear J6 K6
       by_cases aa:k<r.drops.length
       ·have aC:(k:Int)<r.drops.length:=by omega
        obtain⟨gm,aA,ae,_,aB⟩:=World.ownsRow.form ak.o (by omega)
        simp only[qQ] at ae
        obtain⟨rfl,_,rfl⟩:=ae
        have ab:=jD ak.o KR.o (by decide)
        have e0:wr.cell? ⟨gm,k*1,none⟩=some (.string (R.str r.drops[k])):=qx (fun s=>[Value.string (R.str s)]) 1 (fun _=>rfl) ab (ze _ _) k 0 aa (by omega) rfl
        clear ab
        rw[Nat.mul_one] at e0
        have ax:=ao.o r.drops[k] (List.getElem_mem aa)
        have ad:=kD R.lnDrop r.drops k aa pre
        generalize r.drops[k]=dk at*
        have aI:Y (∀W,Calls Tryz.prog 105 #[.string (R.str dk)] W fun e w'=>e = .returned (.string (R.str (R.q dk)))/\w'=W):=fun W=>ym dk W ax
        have aE:Y (Calls Tryz.prog 104 #[.pointer (some ⟨wb,0,none⟩),.slice (some ⟨wr.heap.size,0,none⟩) 3 3] (wr.alloc (.cells #[.string ⟨#[100,114,111,112,32]⟩,.string (R.str (R.q dk)),.string ⟨#[59]⟩] 9)) fun e w'=>e = .returned (.tuple #[])/\WInv w' wb (pre++((r.drops.take (k+1)).map R.lnDrop).flatten) (2:Nat)/\Kept wb wtags wa w'/\(pre++((r.drops.take (k+1)).map R.lnDrop).flatten).length<=90000400000000+6100*(k+1)):=by
         have h:=jU JR.o KR.o [[100,114,111,112,32],R.q dk,[59]] (by decide) (by omega) (by simp) (by simp only[zf7,List.flatten_nil,zh,zoF,zmU,R.q_len];omega)
         have aQ:(R.lnDrop dk).length<=6100:=by
          unfold R.lnDrop;simp only[zh,R.q_len,zoF,zmU];omega
         rw[ad]
         refine Calls.mono h fun e w' ⟨q1,q2,q3⟩=>⟨q1,?_,q3,by rw[zh];omega⟩
         rw[zlW dk] at q2;exact q2
        clear ad ax ao JR KR
        go_wp2_with fail
        refine(aI.o _).mono ?_
        rintro e wq ⟨rfl,ai⟩
        rw[ai]
        clear ai wq
        go_wp2_with fail
        refine aE.o.mono ?_
        rintro e w7 ⟨rfl,h2,h3,h4⟩
        go_wp2
        go_roundw
        case rel=>exact⟨k+1,by omega,by go_num,h2,h4,h3⟩
        case measure=>simp[intOf];omega
       ·have HE:k=r.drops.length:=by omega
        subst HE
        rw[List.take_length] at JR af
        have aF:Y (l++res=(pre++(r.drops.map R.lnDrop).flatten)++lnS 1 [[125]]):=by
         show _=_
         rw[ar.o];simp only[x4]
        clear ar ak ao
        generalize pre++(r.drops.map R.lnDrop).flatten=pre8 at*
        have c8:wr.cell? ⟨wb,2,none⟩=some (.int .i64 2):=WInv.op JR.o
        have f8:wr.frozen? ⟨wb,2,none⟩=false:=WInv.fz JR.o
        obtain⟨av,aw⟩:=WInv.setOp JR.o (1:Nat)
        have J8:Y (WInv (wr.setCell ⟨wb,2,none⟩ (.int .i64 1)) wb pre8 (1:Nat)):=av
        have K8:Y (Kept wb wtags wa (wr.setCell ⟨wb,2,none⟩ (.int .i64 1))):=KR.o.trans aw
        clear av aw JR KR
        have aD:Y (Calls Tryz.prog 104 #[.pointer (some ⟨wb,0,none⟩),.slice (some ⟨wr.heap.size,0,none⟩) 1 1] ((wr.setCell ⟨wb,2,none⟩ (.int .i64 1)).alloc (.cells #[.string ⟨#[125]⟩] 9)) fun e w'=>e = .returned (.tuple #[])/\WInv w' wb (pre8++lnS 1 [[125]]) (1:Nat)/\Kept wb wtags wa w'):=by
         have h:=jU J8.o K8.o [[125]] (by decide) (by omega) (by simp) (by simp)
         rw[show(wr.setCell ⟨wb,2,none⟩ (.int .i64 1)).heap.size=wr.heap.size by simp[World.setCell]] at h
         exact h
        go_wp2_with fail
        refine aD.o.mono ?_
        rintro e w9 ⟨rfl,h2,h3⟩
        go_wp2
        go_end0
        rw[aF.o]
        exact⟨rfl,h2,aT.o.trans h3⟩
end Go.Proofs.YtfocdefchbnkpaaGreatDoor
