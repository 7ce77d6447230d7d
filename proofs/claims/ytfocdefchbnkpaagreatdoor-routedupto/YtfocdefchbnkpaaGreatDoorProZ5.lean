/- The writer of a policy: a list of targets. -/
import Derived.Test.YtfocdefchbnkpaaGreatDoorAli
import Derived.Test.YtfocdefchbnkpaaGreatDoorRdA
import Derived.Test.YtfocdefchbnkpaaGreatDoorRefS
import Derived.Deep.AppendLies
set_option maxRecDepth 100000
set_option maxHeartbeats 20000000
namespace Go.Proofs.YtfocdefchbnkpaaGreatDoor
open Go.RowKit
def GT (w:World):Prop:=Lib.TabIs Tryz.prog w "internal/strconv.uint64pow10" .u64 Lib.pow10Tab
theorem GT.block {w:World}(h:GT w):∃g,(Tryz.prog).globalNamed "internal/strconv.uint64pow10" = some g/\g<w.heap.size:=by
 unfold GT Lib.TabIs World.var? at h
 cases hg:(Tryz.prog).globalNamed "internal/strconv.uint64pow10" with
 | none=>rw[hg] at h;cases h
 | some g=>
  refine⟨g,rfl,?_⟩
  rw[hg] at h
  simp only[Option.bind_some] at h
  by_cases aa:g<w.heap.size
  ·exact aa
  ·rw[Array.getElem?_eq_none (by omega)] at h;cases h
theorem GT.same {w w':World}(h:GT w)(hb:∀g,(Tryz.prog).globalNamed "internal/strconv.uint64pow10" = some g->w'.heap[g]?=w.heap[g]?):GT w':=by
 unfold GT Lib.TabIs World.var? at*
 cases hg:(Tryz.prog).globalNamed "internal/strconv.uint64pow10" with
 | none=>rw[hg] at h;cases h
 | some g=>
  rw[hg] at h
  simp only[Option.bind_some] at h ⊢
  rw[hb g hg];exact h
theorem GT.grown {w w':World}(h:GT w)(hg:w.grownBy w' none):GT w':=h.same fun g e=>by
 obtain⟨g',e',hl⟩:=h.block
 obtain rfl:=qk (e.symm.trans e')
 exact hg.block g hl (by simp)
def GTB (B:Nat):Prop:=∀g,(Tryz.prog).globalNamed "internal/strconv.uint64pow10" = some g->g<B
theorem GT.bound {w:World}(h:GT w):GTB w.heap.size:=fun g e=>by
 obtain⟨g',e',hl⟩:=h.block
 obtain rfl:=qk (e.symm.trans e')
 exact hl
theorem GT.kept {w w':World}{B:Nat}{l:List TypeId}(h:GT w)(hk:Kept B l w w')(hB:GTB B):GT w':=h.same fun g e=>hk.block g (h.bound g e) (Or.inl (hB g e))
theorem fU (w:World)(k:Nat)(os:Array Obj):w.grownBy (Sort.grow (w.drewN k) os) none:=by
 refine zA (zc3 w k) ?_
 generalize w.drewN k=u
 exact⟨rfl,rfl,rfl,by simp[Sort.grow],fun j hj _=>by simp[Sort.grow,Array.getElem?_append_left hj]⟩
theorem fr {w:World}(hT:GT w)(n:Int)(hn:0<=n/\n<=99999):Calls Tryz.prog 159 #[.int .i64 n] w fun e w'=>e = .returned (.string (R.str (R.decI n)))/\w.grownBy w' none:=by
 refine(Tryz.strconv_Itoa n (by omega) (by omega) w hT).mono ?_
 rintro e w' ⟨rfl,k,os,rfl⟩
 refine⟨?_,fU w k os⟩
 rw[zmL n hn.1];rfl
theorem zjB (l:List (List UInt8×Int))(hs:∀t∈l,t.1.length<=3000/\0<=t.2/\t.2<=99999):(R.lnTgs l).length<=l.length*3200:=by
 have ht:∀t∈l,(R.lnTg t).length<=3100:=fun t ht=>by
  have h:=hs t ht
  have h5:=R.decI_len t.2 h.2
  unfold R.lnTg;simp only[zW,R.q_len,zm,qi];omega
 cases l with
 | nil=>simp[R.lnTgs]
 | cons t l=>
  have h3:=ht t (by simp)
  have h4:(l.map fun u=>[44,32]++R.lnTg u).flatten.length<=l.length*3200:=R.flat_len _ _ _ (fun u hu=>by
   have:=ht u (by simp[hu]);simp only[zW,zm,qi];omega)
  unfold R.lnTgs
  rw[zW,zm,Nat.succ_mul];omega
theorem tq (l:List (List UInt8))(x:List UInt8):zh (l++[x])=zh l++[.string (R.str x)]:=by simp[zh]
theorem ziN (x:List UInt8)(n:Int):R.str (R.q x)++(⟨#[32]⟩:ByteArray)++R.str (R.decI n)=R.str (R.lnTg (x,n)):=by
 apply ByteArray.ext
 simp[R.str,R.lnTg]
theorem zi6 {w:World}(l:List (List UInt8×Int))(v:Value)(ah:w.ownsRow 0 285 2 v l.length (zi l))(hn:l.length<=4000)
  (hs:∀t∈l,t.1.length<=3000/\0<=t.2/\t.2<=99999) (hT:GT w) :
  Calls Tryz.prog 161 #[v] w fun e w'=>e = .returned (.string (R.str (R.lnTgs l)))/\w.grownBy w' none:=by
 obtain⟨i0,hi,ax,ay,az⟩:=info_parts fW
 obtain⟨va,vc,rfl⟩:=zP ah
 have HR:Y (w.ownsRow 0 285 2 (.slice va l.length vc) l.length (zi l)):=ah
 have HS:Y (∀t∈l,t.1.length<=3000/\0<=t.2/\t.2<=99999):=hs
 have HT:Y (GT w):=hT
 have ag:Y (∀W g aa,w.grownBy W none->W.ownsRow w.heap.size 9 1 (.slice (some ⟨g,0,none⟩) l.length aa) l.length (zh (l.map R.lnTg))->Calls Tryz.prog 220 #[.slice (some ⟨g,0,none⟩) l.length aa,.string ⟨#[44,32]⟩] W fun e w'=>e = .returned (.string (R.str (R.lnTgs l)))/\w.grownBy w' none):=fun W g aa hW ho=>by
  have e1:((l.map R.lnTg).map R.str).map (fun b=>b.data.toList)=l.map R.lnTg:=by
   rw[List.map_map]
   have:((fun b:ByteArray=>b.data.toList) ∘ R.str)=id:=by funext x;exact R.str_toList x
   rw[this,List.map_id]
  have hb:=(qh ho g rfl).2
  have hc:l.length<=aa:=by
   rcases ho.2 with ⟨h,_⟩ | ⟨g',cap',cur,h,_,_,h3,_⟩
   ·cases h
   ·cases h;exact h3
  have h:=Tryz.strings_Join g 0 aa ((l.map R.lnTg).map R.str) ⟨#[44,32]⟩ W (fun j x hx=>by
   have hj:j<l.length:=by have:=(List.getElem?_eq_some_iff.1 hx).1;simpa using this
   rw[Nat.zero_add,xd ho j (by omega)]
   unfold zh
   rw[List.getElem?_map] at hx ⊢
   cases hq:(l.map R.lnTg)[j]? with
   | none=>rw[hq] at hx;cases hx
   | some y=>rw[hq] at hx;simp at hx ⊢;exact hx) hb (by simp;omega) (by simpa using hc) (by
    rw[e1];show(Lib.join (l.map R.lnTg) [44,32]).length<=_;rw[zeT];have:=zjB l hs;omega)
  rw[e1,show(⟨#[44,32]⟩:ByteArray).data.toList=[44,32] from rfl,zeT,qw,qw] at h
  exact Calls.mono h fun e w' ⟨h1,h2⟩=>⟨h1,zA hW (xD h2)⟩
 clear ah hs hT
 go_enter Tryz.func161,Tryz.ntmps161
 go_wp2_with (at_make;refine wpList_make_own _ rfl _ _ 22 rfl w.heap.size 9 i0 (.string ⟨#[]⟩) 1 Tryz.underlying22 hi ax ay _ _ _ l.length rfl rfl (by omega) ?b2 ?b3 (zZ _) ?_)
 case b2=>rw[az];omega
 case b3=>unfold maxLen;omega
 intro w0 av aq
 have ak:Y (w0.ownsRow w.heap.size 9 1 (.slice (some ⟨w.heap.size,0,none⟩) 0 l.length) 0 (zh ((l.take 0).map R.lnTg))):=av
 have ai:Y _:=aq
 clear av aq
 go_wp2
 go_loopw [3,11] (fun sv iv wr=>∃k:Nat,k<=l.length/\iv = .int .i64 k/\(∃g aa,sv = .slice (some ⟨g,0,none⟩) k aa/\Y (wr.ownsRow w.heap.size 9 1 (.slice (some ⟨g,0,none⟩) k aa) k (zh ((l.take k).map R.lnTg))))/\Y (w.grownBy wr none)) (fun _ iv _=>l.length - (intOf iv).toNat)
 case atStart=>exact⟨0,zl _,rfl,⟨_,_,rfl,ak⟩,ai⟩
 case round=>
  obtain⟨k,hk,rfl,⟨g,aa,rfl,HO⟩,HG⟩:=hrel
  clear ak ai
  by_cases ad:k<l.length
  ·have aS:(k:Int)<l.length:=by omega
   obtain⟨gt,aM,au,_,aQ⟩:=World.ownsRow.form HR.o (by omega)
   simp only[qc] at au
   obtain⟨rfl,_,rfl⟩:=au
   have d0:wr.cell? ⟨gt,k*2,none⟩=some (.string (R.str l[k].1)):=qO (fun t:List UInt8×Int=>[.string (R.str t.1),.int .i64 t.2]) 2 (fun _=>rfl) HR.o HG.o k 0 ad (by omega) rfl
   have d1:wr.cell? ⟨gt,k*2+1,none⟩=some (.int .i64 l[k].2):=qO (fun t:List UInt8×Int=>[.string (R.str t.1),.int .i64 t.2]) 2 (fun _=>rfl) HR.o HG.o k 1 ad (by omega) rfl
   have ab:=HS.o l[k] (List.getElem_mem ad)
   have aE:Y (zh ((l.take (k+1)).map R.lnTg)=zh ((l.take k).map R.lnTg)++[.string (R.str (R.lnTg l[k]))]):=by
    show _=_
    rw[j6 ad,xy,List.map_singleton,tq]
   generalize l[k]=t at*
   obtain⟨x,n⟩:=t
   simp only at d0 d1 ab
   have HN:Y (0<=n/\n<=99999):=ab.2
   have zq:(R.str (R.q x)).size<=3002:=by rw[R.str_size,R.q_len];omega
   have zd:(R.str (R.decI n)).size<=5:=by rw[R.str_size];exact R.decI_len _ ab.2
   have aN:¬(9223372036854775807<(R.str (R.q x)).size+1):=by omega
   have aO:¬(9223372036854775807<(R.str (R.q x)).size+1+(R.str (R.decI n)).size):=by omega
   have HQ:Y (∀W,Calls Tryz.prog 105 #[.string (R.str x)] W fun e w'=>e = .returned (.string (R.str (R.q x)))/\w'=W):=fun W=>xe x W ab.1
   have HI:Y (∀W,w.grownBy W none->Calls Tryz.prog 159 #[.int .i64 n] W fun e w'=>e = .returned (.string (R.str (R.decI n)))/\W.grownBy w' none):=fun W hW=>fr (HT.o.grown hW) n HN.o
   have ae:Y ((wr.alloc (.cells #[.string (R.str x),.int .i64 n] 285)).heap[wr.heap.size]?=some (.cells #[.string (R.str x),.int .i64 n] 285)):=heap_alloc_new _ _
   have af:Y (wr.grownBy (wr.alloc (.cells #[.string (R.str x),.int .i64 n] 285)) none):=zJ _ _ _
   have aU:=HG.o.size
   have aR:g<wr.heap.size:=(qh HO.o g rfl).2
   clear ab HS ag
   have aJ:=J (zO HO.o af.o (fun k hk c=>by cases c))
   have aj:=J (zA HG.o af.o)
   have b0:=zqW ae.o
   have b1:=zqX ae.o
   have bl:=zE ae.o
   have aB:Y (∀u∈([.string (R.str (R.q x)++⟨#[32]⟩++R.str (R.decI n))]:List Value),u.oneCell'=true):=by
    intro u hu
    simp only[List.mem_cons,List.mem_nil_iff,or_false] at hu
    subst hu;rfl
   have aG:Y (k+1<=maxLen):=by show _<=_;unfold maxLen;omega
   have aC:Y (R.str (R.q x)++(⟨#[32]⟩:ByteArray)++R.str (R.decI n)=R.str (R.lnTg (x,n))):=ziN x n
   go_wp2
   generalize wr.alloc (.cells #[.string (R.str x),.int .i64 n] 285)=wx at*
   clear d0 d1 HO HG HR af
   go_region_law (first | (refine step_append_lies _ rfl (.tmp 15) (.tmp 24) 22 rfl w.heap.size 9 i0 _ 1 16 Tryz.underlying22 hi ax ay az rfl (by decide) _ _ _ (by simp[Act.eval]) (xX am.o _) ⟨wN.heap.size,0,none⟩ 1 1 [.string (R.str (R.q x)++⟨#[32]⟩++R.str (R.decI n))] (by simp[Act.eval]) rfl aH.o aB.o (by decide) aG.o (by omega) aD.o (wN.heap.size+1) aK.o ?_;intro g9 an w9 aw ar aP aT;have ao:∀j,(Value.slice (some ⟨g,0,none⟩) k aa).ownBlock=some j->w.heap.size<=j:=fun j hj=>(qh am.o j hj).1;have C9:Y (w.grownBy w9 none):=x9 (zA aA.o (zJ _ _ _)) ar ao;have aI:Y (w9.ownsRow w.heap.size 9 1 (.slice (some ⟨g9,0,none⟩) (k+1) an) (k+1) (zh ((l.take (k+1)).map R.lnTg))):=by { show World.ownsRow _ _ _ _ _ _ _;rw[aE.o,<-aC.o];exact aw };clear aw ar ao) | (go_simp;go_at_call 159;refine(HI.o _ (zA aj.o (zQ wx))).mono ?_;rintro e wN ⟨rfl,ap⟩;have GN:wx.grownBy wN none:=zA (zQ wx) ap;have aA:=J (zA aj.o GN);have am:=J (zO aJ.o GN (fun k hk c=>by cases c));have sN:wx.heap.size<=wN.heap.size:=GN.size;have aH:Y (∀j u,([.string (R.str (R.q x)++⟨#[32]⟩++R.str (R.decI n))]:List Value)[j]?=some u->(wN.alloc (.cells #[.string (R.str (R.q x)++⟨#[32]⟩++R.str (R.decI n))] 9)).cell? ((⟨wN.heap.size,0,none⟩:Addr).add j)=some u):=qI wN #[_] _ _ rfl;have aD:Y (w.heap.size<=(wN.alloc (.cells #[.string (R.str (R.q x)++⟨#[32]⟩++R.str (R.decI n))] 9)).heap.size):=by { show _<=_;rw[show(wN.alloc (.cells #[.string (R.str (R.q x)++⟨#[32]⟩++R.str (R.decI n))] 9)).heap.size=wN.heap.size+1 from by simp];omega };have aK:Y ((wN.alloc (.cells #[.string (R.str (R.q x)++⟨#[32]⟩++R.str (R.decI n))] 9)).heap.size=wN.heap.size+1):=by { show _=_;simp };clear ap GN) | (go_simp;go_at_call 105;refine(HQ.o _).mono ?_;rintro e w' ⟨rfl,rfl⟩))
   all_goals
    go_wp2
    go_roundw
    case rel=>exact⟨k+1,by omega,by go_num,⟨g9,an,rfl,aI⟩,C9⟩
    case measure=>simp[intOf];omega
  ·have aL:k=l.length:=by omega
   subst aL
   have al:Y (wr.ownsRow w.heap.size 9 1 (.slice (some ⟨g,0,none⟩) l.length aa) l.length (zh (l.map R.lnTg))):=by
    have h:=HO.o
    rw[List.take_length] at h
    exact h
   have aF:Y (Calls Tryz.prog 220 #[.slice (some ⟨g,0,none⟩) l.length aa,.string ⟨#[44,32]⟩] wr fun e w'=>e = .returned (.string (R.str (R.lnTgs l)))/\w.grownBy w' none):=ag.o wr g aa HG.o al.o
   clear ag HO al HS HT HR
   go_wp2_with (go_at_call 220;refine aF.o.mono ?_;rintro e w2 ⟨rfl,h2⟩)
   go_ret
   exact⟨rfl,h2⟩
end Go.Proofs.YtfocdefchbnkpaaGreatDoor
