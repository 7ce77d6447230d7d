/- The reader of the document's own answer, in memory: its tokens, the place, the first wrong place, the first fault; and its smallest methods. -/
import Derived.Test.YtfocdefchbnkpaaGreatDoorAli
import Derived.Test.YtfocdefchbnkpaaGreatDoorPure1
import Derived.RegionTactic
import Derived.BigRegion
import Derived.ChangeAlike
import Derived.Laws.ResultCell
import Derived.Deep.QuietTactic
import Derived.BigQuiet
import Derived.Deep.RegionWith
import Derived.Shelf.Small.Strs
import Derived.Shelf.Strings.Search1
import Derived.Shelf.Strings.Search2
import Derived.Shelf.Strings.Search3
import Derived.Shelf.Strings.Cut
import Derived.Shelf.Strconv.Atoi
import Derived.Shelf.Strings.Prefix
import Derived.Shelf.Strings.Trim
import Derived.Shelf.Strings.Split
import Derived.Test.YtfocdefchbnkpaaGreatDoorProg
import Derived.Lib.IndexMore
set_option maxRecDepth 100000
set_option maxHeartbeats 20000000
namespace Go.Proofs.YtfocdefchbnkpaaGreatDoor
open Go.RowKit
structure R.St where
 K:Nat
 bad:Int
 E:Int
 at_:Int
def R.numStep (n:Int)(c:UInt8):Int:=wrap64 (wrap64 (10*n)+((c.toNat:Int) - 48) % 256)
def R.num (l:List UInt8):Int:=l.foldl R.numStep 0
structure R.Ok (ts:List R.Tok):Prop where
 goes:∀(k:Nat) (t:R.Tok),ts[k]?=some t->t.k≠0->t.k≠120->k+1<ts.length
 len:ts.length<=4000
 strs:∀(k:Nat) (t:R.Tok),ts[k]?=some t->t.s.length<=3000
 nums:∀(k:Nat) (t:R.Tok),ts[k]?=some t->t.k=49->0<=R.num t.s/\R.num t.s<=99999
structure RInv (w:World) (rb g cap:Nat) (ts:List R.Tok) (st:R.St) (H:Value):Prop where
 rd:w.heap[rb]?=some (.cells #[.slice (some ⟨g,0,none⟩) ts.length cap,.int .i64 st.K,.int .i64 st.bad,.int .i64 st.E,.int .i64 st.at_,H] 113 (0,0))
 tk:∃cur,w.heap[g]?=some (.cells cur 115 (0,0))/\cur.toList.take (ts.length*3)=R.tokCells ts
 ne:g≠rb
 lt:st.K<ts.length
 ok:R.Ok ts
theorem zD {a b c:World}{aa:Option Nat}(h:a.grownBy b aa)(k:b.grownBy c aa):a.grownBy c aa:=
 ⟨k.os.trans h.os,k.tape.trans h.tape,k.output.trans h.output,qf h.size k.size,fun i hi hn=>(k.block i (vQ hi h.size) hn).trans (h.block i hi hn)⟩
theorem zb {a b:World}(h:a.grownBy b none)(aa:Option Nat):a.grownBy b aa:=
 ⟨h.os,h.tape,h.output,h.size,fun i hi _=>h.block i hi (by simp)⟩
theorem ze (w:World)(aa:Option Nat):w.grownBy w aa:=⟨rfl,rfl,rfl,zw _,fun _ _ _=>rfl⟩
theorem qJ {w w':World}(h:Below w.heap.size w w'):w.grownBy w' none:=⟨h.os,h.tape,h.output,h.size,fun k hk _=>h.block k hk⟩
theorem qr {w w':World}(h:w.grownBy w' none):Below w.heap.size w w':=⟨h.os,h.tape,h.output,h.size,fun k hk=>h.block k hk (by simp)⟩
theorem zI {w:World}{b:Nat}{o:Obj}(h:w.heap[b]?=some o):b<w.heap.size:=(Array.getElem?_eq_some_iff.1 h).1
theorem RInv.keep {w w':World}{rb g aa:Nat}{ts:List R.Tok}{st:R.St}{H:Value}(h:RInv w rb g aa ts st H)(hg:w.grownBy w' none):RInv w' rb g aa ts st H:=by
 refine⟨?_,?_,h.ne,h.lt,h.ok⟩
 ·rw[hg.block rb (zI h.rd) (by simp)];exact h.rd
 ·obtain⟨ab,h1,h2⟩:=h.tk
  exact⟨ab,by rw[hg.block g (zI h1) (by simp)];exact h1,h2⟩
theorem zB {w:World}{b i:Nat}{cs:Array Value}{t:TypeId}{f:Nat×Nat}(h:w.heap[b]?=some (.cells cs t f)):w.cell? ⟨b,i,none⟩=cs[i]?:=
 cell_of_row w b i cs t f h
theorem zH {w:World}{b i:Nat}{cs:Array Value}{t:TypeId}(h:w.heap[b]?=some (.cells cs t (0,0))):w.frozen? ⟨b,i,none⟩=false:=by
 unfold World.frozen?
 simp[h]
theorem zuG {w:World}{b:Nat}{cs:Array Value}{t:TypeId}(i:Nat)(h:w.heap[b]?=some (.cells cs t (0,0))):w.frozen? ⟨b,i,none⟩=false:=zH h
theorem zuC {w:World}{b:Nat}{v0:Value}{t:TypeId}{f:Nat×Nat}(h:w.heap[b]?=some (.cells #[v0] t f)):w.cell? ⟨b,0,none⟩=some v0:=zB h
theorem zuH {w:World}{b:Nat}{v0 v1:Value}{t:TypeId}{f:Nat×Nat}(h:w.heap[b]?=some (.cells #[v0,v1] t f)):w.cell? ⟨b,0,none⟩=some v0:=zB h
theorem zuB {w:World}{b:Nat}{v0 v1:Value}{t:TypeId}{f:Nat×Nat}(h:w.heap[b]?=some (.cells #[v0,v1] t f)):w.cell? ⟨b,1,none⟩=some v1:=zB h
theorem ztW {w:World}{b:Nat}{v0 v1 v2:Value}{t:TypeId}{f:Nat×Nat}(h:w.heap[b]?=some (.cells #[v0,v1,v2] t f)):w.cell? ⟨b,0,none⟩=some v0:=zB h
theorem zuA {w:World}{b:Nat}{v0 v1 v2:Value}{t:TypeId}{f:Nat×Nat}(h:w.heap[b]?=some (.cells #[v0,v1,v2] t f)):w.cell? ⟨b,1,none⟩=some v1:=zB h
theorem ztX {w:World}{b:Nat}{v0 v1 v2:Value}{t:TypeId}{f:Nat×Nat}(h:w.heap[b]?=some (.cells #[v0,v1,v2] t f)):w.cell? ⟨b,2,none⟩=some v2:=zB h
theorem zu4 {w:World}{b:Nat}{v0 v1 v2 v3 v4:Value}{t:TypeId}{f:Nat×Nat}(h:w.heap[b]?=some (.cells #[v0,v1,v2,v3,v4] t f)):w.cell? ⟨b,1,none⟩=some v1:=zB h
theorem zuK {w:World}{b:Nat}{v0 v1 v2 v3 v4:Value}{t:TypeId}{f:Nat×Nat}(h:w.heap[b]?=some (.cells #[v0,v1,v2,v3,v4] t f)):w.cell? ⟨b,2,none⟩=some v2:=zB h
theorem ztZ {w:World}{b:Nat}{v0 v1 v2 v3 v4 v5:Value}{t:TypeId}{f:Nat×Nat}(h:w.heap[b]?=some (.cells #[v0,v1,v2,v3,v4,v5] t f)):w.cell? ⟨b,0,none⟩=some v0:=zB h
theorem ztS {w:World}{b:Nat}{v0 v1 v2 v3 v4 v5:Value}{t:TypeId}{f:Nat×Nat}(h:w.heap[b]?=some (.cells #[v0,v1,v2,v3,v4,v5] t f)):w.cell? ⟨b,1,none⟩=some v1:=zB h
theorem ztU {w:World}{b:Nat}{v0 v1 v2 v3 v4 v5:Value}{t:TypeId}{f:Nat×Nat}(h:w.heap[b]?=some (.cells #[v0,v1,v2,v3,v4,v5] t f)):w.cell? ⟨b,2,none⟩=some v2:=zB h
theorem zuF {w:World}{b:Nat}{v0 v1 v2 v3 v4 v5:Value}{t:TypeId}{f:Nat×Nat}(h:w.heap[b]?=some (.cells #[v0,v1,v2,v3,v4,v5] t f)):w.cell? ⟨b,3,none⟩=some v3:=zB h
theorem zu8 {w:World}{b:Nat}{v0 v1 v2 v3 v4 v5:Value}{t:TypeId}{f:Nat×Nat}(h:w.heap[b]?=some (.cells #[v0,v1,v2,v3,v4,v5] t f)):w.cell? ⟨b,4,none⟩=some v4:=zB h
theorem ztR {w:World}{b:Nat}{v0 v1 v2 v3 v4 v5:Value}{t:TypeId}{f:Nat×Nat}(h:w.heap[b]?=some (.cells #[v0,v1,v2,v3,v4,v5] t f)):w.cell? ⟨b,5,none⟩=some v5:=zB h
theorem zu9 {w:World}{b:Nat}{v0 v1 v2 v3 v4 v5 v6:Value}{t:TypeId}{f:Nat×Nat}(h:w.heap[b]?=some (.cells #[v0,v1,v2,v3,v4,v5,v6] t f)):w.cell? ⟨b,0,none⟩=some v0:=zB h
theorem zu7 {w:World}{b:Nat}{v0 v1 v2 v3 v4 v5 v6:Value}{t:TypeId}{f:Nat×Nat}(h:w.heap[b]?=some (.cells #[v0,v1,v2,v3,v4,v5,v6] t f)):w.cell? ⟨b,1,none⟩=some v1:=zB h
theorem zuJ {w:World}{b:Nat}{v0 v1 v2 v3 v4 v5 v6:Value}{t:TypeId}{f:Nat×Nat}(h:w.heap[b]?=some (.cells #[v0,v1,v2,v3,v4,v5,v6] t f)):w.cell? ⟨b,2,none⟩=some v2:=zB h
theorem ztQ {w:World}{b:Nat}{v0 v1 v2 v3 v4 v5 v6:Value}{t:TypeId}{f:Nat×Nat}(h:w.heap[b]?=some (.cells #[v0,v1,v2,v3,v4,v5,v6] t f)):w.cell? ⟨b,3,none⟩=some v3:=zB h
theorem ztV {w:World}{b:Nat}{v0 v1 v2 v3 v4 v5 v6:Value}{t:TypeId}{f:Nat×Nat}(h:w.heap[b]?=some (.cells #[v0,v1,v2,v3,v4,v5,v6] t f)):w.cell? ⟨b,4,none⟩=some v4:=zB h
theorem zu2 {w:World}{b:Nat}{v0 v1 v2 v3 v4 v5 v6:Value}{t:TypeId}{f:Nat×Nat}(h:w.heap[b]?=some (.cells #[v0,v1,v2,v3,v4,v5,v6] t f)):w.cell? ⟨b,5,none⟩=some v5:=zB h
theorem zu6 {w:World}{b:Nat}{v0 v1 v2 v3 v4 v5 v6:Value}{t:TypeId}{f:Nat×Nat}(h:w.heap[b]?=some (.cells #[v0,v1,v2,v3,v4,v5,v6] t f)):w.cell? ⟨b,6,none⟩=some v6:=zB h
theorem zuE {w:World}{b:Nat}{v0 v1 v2 v3 v4 v5 v6 v7:Value}{t:TypeId}{f:Nat×Nat}(h:w.heap[b]?=some (.cells #[v0,v1,v2,v3,v4,v5,v6,v7] t f)):w.cell? ⟨b,0,none⟩=some v0:=zB h
theorem zu3 {w:World}{b:Nat}{v0 v1 v2 v3 v4 v5 v6 v7:Value}{t:TypeId}{f:Nat×Nat}(h:w.heap[b]?=some (.cells #[v0,v1,v2,v3,v4,v5,v6,v7] t f)):w.cell? ⟨b,1,none⟩=some v1:=zB h
theorem ztY {w:World}{b:Nat}{v0 v1 v2 v3 v4 v5 v6 v7:Value}{t:TypeId}{f:Nat×Nat}(h:w.heap[b]?=some (.cells #[v0,v1,v2,v3,v4,v5,v6,v7] t f)):w.cell? ⟨b,2,none⟩=some v2:=zB h
theorem zuD {w:World}{b:Nat}{v0 v1 v2 v3 v4 v5 v6 v7:Value}{t:TypeId}{f:Nat×Nat}(h:w.heap[b]?=some (.cells #[v0,v1,v2,v3,v4,v5,v6,v7] t f)):w.cell? ⟨b,3,none⟩=some v3:=zB h
theorem zuI {w:World}{b:Nat}{v0 v1 v2 v3 v4 v5 v6 v7:Value}{t:TypeId}{f:Nat×Nat}(h:w.heap[b]?=some (.cells #[v0,v1,v2,v3,v4,v5,v6,v7] t f)):w.cell? ⟨b,4,none⟩=some v4:=zB h
theorem zu5 {w:World}{b:Nat}{v0 v1 v2 v3 v4 v5 v6 v7:Value}{t:TypeId}{f:Nat×Nat}(h:w.heap[b]?=some (.cells #[v0,v1,v2,v3,v4,v5,v6,v7] t f)):w.cell? ⟨b,5,none⟩=some v5:=zB h
theorem ztT {w:World}{b:Nat}{v0 v1 v2 v3 v4 v5 v6 v7:Value}{t:TypeId}{f:Nat×Nat}(h:w.heap[b]?=some (.cells #[v0,v1,v2,v3,v4,v5,v6,v7] t f)):w.cell? ⟨b,6,none⟩=some v6:=zB h
theorem zu0 {w:World}{b:Nat}{v0 v1 v2 v3 v4 v5 v6 v7:Value}{t:TypeId}{f:Nat×Nat}(h:w.heap[b]?=some (.cells #[v0,v1,v2,v3,v4,v5,v6,v7] t f)):w.cell? ⟨b,7,none⟩=some v7:=zB h
theorem ze0 (ts:List R.Tok)(k:Nat)(h:k<ts.length)(j:Nat)(hj:j<3):(R.tokCells ts)[k*3+j]?=(ts[k].cells)[j]?:=by
 induction ts generalizing k with
 | nil=>simp at h
 | cons t ts ih=>
  have e:R.tokCells (t :: ts)=t.cells++R.tokCells ts:=by simp[R.tokCells]
  rw[e]
  have el:t.cells.length=3:=rfl
  match k with
  | 0=>rw[List.getElem?_append_left (by rw[el];omega)];simp
  | k+1=>
   rw[List.getElem?_append_right (by rw[el];omega),el,show(k+1)*3+j - 3=k*3+j by omega,ih k (by simpa using h)];rfl
theorem RInv.tok {w:World}{rb g aa:Nat}{ts:List R.Tok}{st:R.St}{H:Value}(h:RInv w rb g aa ts st H)(k:Nat)(hk:k<ts.length)(j:Nat)(hj:j<3):w.cell? ⟨g,k*3+j,none⟩=(ts[k].cells)[j]?:=by
 obtain⟨ab,h1,h2⟩:=h.tk
 rw[zB h1,<-ze0 ts k hk j hj,<-h2,List.getElem?_take,if_pos (by omega)]
 simp
theorem RInv.tok? {w:World}{rb g aa:Nat}{ts:List R.Tok}{st:R.St}{H:Value}(h:RInv w rb g aa ts st H){t:R.Tok}(ht:ts[st.K]?=some t) :
  w.cell? ⟨g,st.K*3,none⟩=some (.int .u8 t.k)/\w.cell? ⟨g,st.K*3+1,none⟩=some (.string (R.str t.s))/\w.cell? ⟨g,st.K*3+2,none⟩=some (.int .i64 t.at_):=by
 have hl:=h.lt
 have e:ts[st.K]=t:=by rw[xo hl] at ht;exact x5 ht
 have t0:=h.tok st.K hl 0 (by omega)
 have t1:=h.tok st.K hl 1 (by omega)
 have t2:=h.tok st.K hl 2 (by omega)
 rw[e] at t0 t1 t2
 exact⟨t0,t1,t2⟩
theorem RInv.gl {w:World}{rb g aa:Nat}{ts:List R.Tok}{st:R.St}{H:Value}(h:RInv w rb g aa ts st H):g<w.heap.size:=by
 obtain⟨_,h1,_⟩:=h.tk;exact zI h1
theorem uL {w:World}{rb g aa:Nat}{ts:List R.Tok}{st:R.St}{H:Value}(h:RInv w rb g aa ts st H){t:R.Tok}(ht:ts[st.K]?=some t) :
  Calls Tryz.prog 51 #[.pointer (some ⟨rb,0,none⟩)] w fun e w'=>e = .returned (.agg #[.int .u8 t.k,.string (R.str t.s),.int .i64 t.at_])/\w.grownBy w' none:=by
 have c0:w.cell? ⟨rb,0,none⟩=some (.slice (some ⟨g,0,none⟩) ts.length aa):=zB h.rd
 have c1:w.cell? ⟨rb,1,none⟩=some (.int .i64 st.K):=zB h.rd
 obtain⟨t0,t1,t2⟩:=h.tok? ht
 have ad:=h.lt
 have ae:=h.ok.len
 have ab:=zI h.rd
 have bg:=h.gl
 clear ht
 generalize st.K=k at*
 generalize ts.length=n at*
 clear h
 go_enter Tryz.func51,Tryz.ntmps51
 go_wp2
 go_region
 go_wp2
 exact bodyPost_ret (v:=.agg #[.int .u8 t.k,.string (R.str t.s),.int .i64 t.at_]) (by simp[results,Tryz.results51,go_sem]) rfl ⟨rfl,qJ (((Below.refl _ _).alloc (zw _) _).drew)⟩
def R.isB (st:R.St)(t:R.Tok)(s:List UInt8):Bool:=decide (st.bad<0) && ((t.k == 119 || t.k == 115) && decide (t.s=s))
theorem zpB {w:World}{rb g ab:Nat}{ts:List R.Tok}{st:R.St}{H:Value}(h:RInv w rb g ab ts st H){t:R.Tok}(ht:ts[st.K]?=some t)(s:ByteArray) :
  Calls Tryz.prog 89 #[.pointer (some ⟨rb,0,none⟩),.string s] w fun e w'=>e = .returned (.bool (R.isB st t s.data.toList))/\w.grownBy w' none:=by
 have HI:Y (R.isB st t s.data.toList=(decide (st.bad<0) && ((t.k == 119 || t.k == 115) && decide (t.s=s.data.toList)))):=rfl
 have hq:((R.str t.s).toList == s.toList)=decide (t.s=s.data.toList):=by rw[ByteArray.toList_eq,ByteArray.toList_eq,R.str_toList,Bool.eq_iff_iff];simp
 generalize decide (t.s=s.data.toList)=b3 at*
 by_cases hb:st.bad<0
 ·cases h1:(t.k == 119) <;> cases h2:(t.k == 115)
  all_goals
   rw[h1,h2,decide_eq_true hb] at HI
   go_enter Tryz.func89,Tryz.ntmps89
   go_wp2_with (go_at_call 51;refine(uL h ht).mono ?_;rintro e w1 ⟨rfl,hg⟩;have c2:w1.cell? ⟨rb,2,none⟩=some (.int .i64 st.bad):=zB (h.keep hg).rd;have aa:=zI (h.keep hg).rd)
   go_ret
   exact⟨qN (by rw[HI.o];try rfl),qJ ((qr hg).alloc hg.size _)⟩
 ·rw[decide_eq_false hb] at HI
  go_enter Tryz.func89,Tryz.ntmps89
  go_wp2_with (go_at_call 51;refine(uL h ht).mono ?_;rintro e w1 ⟨rfl,hg⟩;have c2:w1.cell? ⟨rb,2,none⟩=some (.int .i64 st.bad):=zB (h.keep hg).rd;have aa:=zI (h.keep hg).rd)
  go_ret
  exact⟨qN (by rw[HI.o];try rfl),qJ ((qr hg).alloc hg.size _)⟩
def R.overS (t:R.Tok)(st:R.St)(ok:Bool):R.St:=
 if 0<=st.bad then st else if ok then { st with K:=st.K+1 } else { st with bad:=t.at_ }
def R.notS (st:R.St)(ok:Bool)(e a:Int):R.St:=
 if ok=false/\st.E=0/\st.bad<0 then { st with E:=e,at_:=a } else st
theorem zR {w:World}{b i:Nat}{cs:Array Value}{t:TypeId}{f:Nat×Nat}(h:w.heap[b]?=some (.cells cs t f))(v:Value):(w.setCell ⟨b,i,none⟩ v).heap[b]?=some (.cells (cs.setIfInBounds i v) t f):=by
 simp only[World.setCell,Array.getElem?_modify,if_pos,h]
 simp
theorem znI (a b c:Value)(w:World):(Instr.field 115 (.agg #[a,b,c]) 2).run Tryz.prog w = .ok c w:=by kernel_rfl
theorem zG (w:World)(b i:Nat)(v:Value):w.grownBy (w.setCell ⟨b,i,none⟩ v) (some b):=by
 refine⟨rfl,rfl,rfl,by simp[World.setCell],fun k hk hn=>?_⟩
 exact Below.heap_setCell _ _ _ _ (fun e=>hn (by rw[e]))
theorem RInv.put {w w':World}{rb g ab:Nat}{ts:List R.Tok}{st aa:R.St}{H H':Value}(h:RInv w rb g ab ts st H)(hg:w.grownBy w' (some rb))
  (hr:w'.heap[rb]?=some (.cells #[.slice (some ⟨g,0,none⟩) ts.length ab,.int .i64 aa.K,.int .i64 aa.bad,.int .i64 aa.E,.int .i64 aa.at_,H'] 113 (0,0))) (hl:aa.K<ts.length):RInv w' rb g ab ts aa H':=by
 refine⟨hr,?_,h.ne,hl,h.ok⟩
 obtain⟨ad,h1,h2⟩:=h.tk
 exact⟨ad,by rw[hg.block g (zI h1) (by simpa using h.ne)];exact h1,h2⟩
theorem zhO {w:World}{rb g aa:Nat}{ts:List R.Tok}{st:R.St}{H:Value}(h:RInv w rb g aa ts st H){t:R.Tok}(ht:ts[st.K]?=some t)(ok:Bool)(ab:ok=true->st.bad<0->st.K+1<ts.length) :
  Calls Tryz.prog 130 #[.pointer (some ⟨rb,0,none⟩),.bool ok] w fun e w'=>e = .returned (.tuple #[])/\RInv w' rb g aa ts (R.overS t st ok) H/\w.grownBy w' (some rb):=by
 have c2:w.cell? ⟨rb,2,none⟩=some (.int .i64 st.bad):=zB h.rd
 have c1:w.cell? ⟨rb,1,none⟩=some (.int .i64 st.K):=zB h.rd
 have f1:w.frozen? ⟨rb,1,none⟩=false:=zH h.rd
 have ae:=zI h.rd
 have ad:=h.lt
 have ag:=h.ok.len
 by_cases hb:0<=st.bad
 ·have HO:Y (R.overS t st ok=st):=by show R.overS t st ok=st;unfold R.overS;rw[if_pos hb]
  go_enter Tryz.func130,Tryz.ntmps130
  go_wp2
  exact bodyPost_ret (v:=.tuple #[]) (results_none Tryz.results130 _ _ _) rfl ⟨rfl,by rw[HO.o];exact h,ze _ _⟩
 ·cases ok
  ·have HO:Y (R.overS t st false={ st with bad:=t.at_ }):=by show R.overS t st false=_;unfold R.overS;rw[if_neg hb];rfl
   have af:=znI
   go_enter Tryz.func130,Tryz.ntmps130
   go_wp2_with (go_at_call 51;refine(uL h ht).mono ?_;rintro e w1 ⟨rfl,hg⟩;have f2:w1.frozen? ⟨rb,2,none⟩=false:=zH (h.keep hg).rd;have c3:w1.cell? ⟨rb,2,none⟩=some (.int .i64 st.bad):=zB (h.keep hg).rd)
   go_end0
   refine⟨rfl,?_,zD (zb hg _) (zG _ _ _ _)⟩
   rw[HO.o]
   exact(h.keep hg).put (zG _ _ _ _) (zR (h.keep hg).rd _) ad
  ·have HK:Y (st.K+1<ts.length):=ab rfl (by omega)
   clear ab
   have HO:Y (R.overS t st true={ st with K:=st.K+1 }):=by show R.overS t st true=_;unfold R.overS;rw[if_neg hb];rfl
   go_enter Tryz.func130,Tryz.ntmps130
   go_wp2
   go_end0
   refine⟨rfl,?_,zG _ _ _ _⟩
   rw[HO.o]
   exact h.put (zG _ _ _ _) (zR h.rd _) HK.o
theorem j8 {w:World}{rb g ab:Nat}{ts:List R.Tok}{st:R.St}{H:Value}(h:RInv w rb g ab ts st H)(ok:Bool)(e0:Int)(a b:Value)(p:Int) :
  Calls Tryz.prog 85 #[.pointer (some ⟨rb,0,none⟩),.bool ok,.int .i64 e0,.agg #[a,b,.int .i64 p]] w fun e w'=>e = .returned (.tuple #[])/\RInv w' rb g ab ts (R.notS st ok e0 p) H/\w.grownBy w' (some rb):=by
 have c2:w.cell? ⟨rb,2,none⟩=some (.int .i64 st.bad):=zB h.rd
 have c3:w.cell? ⟨rb,3,none⟩=some (.int .i64 st.E):=zB h.rd
 have c4:w.cell? ⟨rb,4,none⟩=some (.int .i64 st.at_):=zB h.rd
 have f3:w.frozen? ⟨rb,3,none⟩=false:=zH h.rd
 have f4:w.frozen? ⟨rb,4,none⟩=false:=zH h.rd
 have ae:=zI h.rd
 have ag:=h.lt
 have ah:=h.ok.len
 have aa:w.grownBy (w.alloc (.cells #[a,b,.int .i64 p] 115)) none:=zL _ _ _
 have hk:=h.keep aa
 cases ok
 ·by_cases hE:st.E=0
  ·have af:(st.E == 0)=true:=by rw[hE];rfl
   by_cases hb:st.bad<0
   ·have HO:Y (R.notS st false e0 p={ st with E:=e0,at_:=p }):=by show R.notS st false e0 p=_;unfold R.notS;rw[if_pos ⟨rfl,hE,hb⟩]
    clear hE
    go_enter Tryz.func85,Tryz.ntmps85
    go_wp2
    go_end0
    have ad:w.grownBy (((w.setCell ⟨rb,3,none⟩ (.int .i64 e0)).setCell ⟨rb,4,none⟩ (.int .i64 p)).alloc (.cells #[a,b,.int .i64 p] 115)) (some rb):=
     zD (zD (zG _ _ _ _) (zG _ _ _ _)) (zL _ _ _)
    refine⟨rfl,?_,ad⟩
    rw[HO.o]
    refine h.put ad ?_ ag
    rw[Below.heap_alloc _ _ _ (by simp[World.setCell];exact ae)]
    exact zR (zR h.rd _) _
   ·have HO:Y (R.notS st false e0 p=st):=by show R.notS st false e0 p=_;unfold R.notS;rw[if_neg (fun h=>hb h.2.2)]
    clear hE
    go_enter Tryz.func85,Tryz.ntmps85
    go_wp2
    go_end0
    exact⟨rfl,by rw[HO.o];exact hk,zb aa _⟩
  ·have af:(st.E == 0)=false:=by rw[beq_eq_false_iff_ne];exact hE
   have HO:Y (R.notS st false e0 p=st):=by show R.notS st false e0 p=_;unfold R.notS;rw[if_neg (fun h=>hE h.2.1)]
   clear hE
   go_enter Tryz.func85,Tryz.ntmps85
   go_wp2
   go_end0
   exact⟨rfl,by rw[HO.o];exact hk,zb aa _⟩
 ·have HO:Y (R.notS st true e0 p=st):=by show R.notS st true e0 p=_;unfold R.notS;rw[if_neg (fun h=>absurd h.1 (by simp))]
  go_enter Tryz.func85,Tryz.ntmps85
  go_wp2
  go_end0
  exact⟨rfl,by rw[HO.o];exact hk,zb aa _⟩
theorem qz {w w':World}{o:Obj}{aa:Option Nat}(h:(w.alloc o).grownBy w' aa)(hr:some w.heap.size≠aa):w'.heap[w.heap.size]?=some o:=by
 rw[h.block w.heap.size (by simp) hr];exact heap_alloc_new w o
theorem zF {w w':World}{o:Obj}{b:Nat}{aa:Option Nat}(h:w.heap[b]?=some o)(hg:w.grownBy w' aa)(hr:some b≠aa):w'.heap[b]?=some o:=by
 rw[hg.block b (zI h) hr];exact h
theorem World.heap_alloc_size (w:World)(o:Obj):(w.alloc o).heap.size=w.heap.size+1:=by simp
theorem RInv.other {w w':World}{rb g aa b:Nat}{ts:List R.Tok}{st:R.St}{H:Value}(h:RInv w rb g aa ts st H)(hg:w.grownBy w' (some b))(h1:b≠rb)(h2:b≠g):RInv w' rb g aa ts st H:=by
 refine⟨?_,?_,h.ne,h.lt,h.ok⟩
 ·rw[hg.block rb (zI h.rd) (by simpa using fun e=>h1 e.symm)];exact h.rd
 ·obtain⟨ab,h3,h4⟩:=h.tk
  exact⟨ab,by rw[hg.block g (zI h3) (by simpa using fun e=>h2 e.symm)];exact h3,h4⟩
theorem zm {a b c:World}{aa:Option Nat}{k:Nat}(h:a.grownBy b aa)(hk:b.grownBy c (some k))(hn:a.heap.size<=k):a.grownBy c aa:=
 ⟨hk.os.trans h.os,hk.tape.trans h.tape,hk.output.trans h.output,qf h.size hk.size,fun i hi hr=>(hk.block i (vQ hi h.size) (by simp;omega)).trans (h.block i hi hr)⟩
theorem zpT {w:World}{rb g ab:Nat}{ts:List R.Tok}{st:R.St}{H:Value}(h:RInv w rb g ab ts st H){t:R.Tok}(ht:ts[st.K]?=some t)(s:ByteArray) :
  Calls Tryz.prog 84 #[.pointer (some ⟨rb,0,none⟩),.string s] w fun e w'=>e = .returned (.agg #[.int .u8 t.k,.string (R.str t.s),.int .i64 t.at_])/\RInv w' rb g ab ts (R.overS t st (R.isB st t s.data.toList)) H/\w.grownBy w' (some rb):=by
 have ag:R.isB st t s.data.toList=true->st.bad<0->st.K+1<ts.length:=by
  intro hi _
  unfold R.isB at hi
  simp only[Bool.and_eq_true,Bool.or_eq_true,beq_iff_eq] at hi
  exact h.ok.goes st.K t ht (by omega) (by omega)
 have af:=fun {w:World}(h:RInv w rb g ab ts st H)=>zpB h ht s
 generalize R.isB st t s.data.toList=ib at*
 have aj:Y _:=ag
 have ai:Y _:=@af
 have HT:Y _:=ht
 clear ag af ht
 have H0:Y _:=h
 have an:=zI h.rd
 have bg:=h.gl
 have ap:=h.ne
 have ao:=h.lt
 clear h
 go_enter Tryz.func84,Tryz.ntmps84
 go_wp2_with fail
 refine(uL (H0.o.keep (zL _ _ _)) HT.o).mono ?_
 rintro e w1 ⟨rfl,ad⟩
 have I1:Y (RInv w1 rb g ab ts st H):=(H0.o.keep (zL _ _ _)).keep ad
 go_wp2_with fail
 refine(ai.o (I1.o.keep (zL _ _ _))).mono ?_
 rintro e w2 ⟨rfl,aa⟩
 have I2:Y (RInv w2 rb g ab ts st H):=(I1.o.keep (zL _ _ _)).keep aa
 go_wp2_with fail
 refine(zhO I2.o HT.o ib aj.o).mono ?_
 rintro e w3 ⟨rfl,I3,ae⟩
 have J3:Y _:=I3
 clear I3
 have k1:=ad.size
 have k2:=aa.size
 have k3:=ae.size
 simp only[World.heap_alloc_size] at k1 k2
 have n1:=zF (qz aa (by simp)) ae (by simp;omega)
 have n0:=zF (zF (zF (qz ad (by simp)) (zL w1 _ none) (by simp)) aa (by simp)) ae (by simp;omega)
 have aq:w3.cell? ⟨w1.heap.size,0,none⟩=some (.int .u8 t.k):=zB n1
 have ar:w3.cell? ⟨w1.heap.size,1,none⟩=some (.string (R.str t.s)):=zB n1
 have au:w3.cell? ⟨w1.heap.size,2,none⟩=some (.int .i64 t.at_):=zB n1
 have ak:w3.cell? ⟨w.heap.size,0,none⟩=some (.int .u8 0):=zB n0
 have al:w3.cell? ⟨w.heap.size,1,none⟩=some (.string ⟨#[]⟩):=zB n0
 have am:w3.cell? ⟨w.heap.size,2,none⟩=some (.int .i64 0):=zB n0
 have f0:=zuG 0 n0
 have f1:=zuG 1 n0
 have f2:=zuG 2 n0
 have HG:Y (w.grownBy w3 (some rb)):=zD (zb (zD (zD (zD (zL w _ none) ad) (zL w1 _ none)) aa) _) ae
 clear n0 n1 ad aa ae
 go_wp2
 have ah:=zD (zD (zG w3 w.heap.size 0 (.int .u8 t.k)) (zG _ w.heap.size 1 (.string (R.str t.s)))) (zG _ w.heap.size 2 (.int .i64 t.at_))
 exact bodyPost_ret (v:=.agg #[.int .u8 t.k,.string (R.str t.s),.int .i64 t.at_]) (by simp[results,Tryz.results84,go_sem,ak,al,am]) rfl
  ⟨rfl,J3.o.other ah (by omega) (by omega),zm HG.o ah (zw _)⟩
theorem zqA {w:World}{rb g ad:Nat}{ts:List R.Tok}{st:R.St}{H:Value}(h:RInv w rb g ad ts st H){t:R.Tok}(ht:ts[st.K]?=some t)(k:Int)(ae:k≠0)(af:k≠120) :
  Calls Tryz.prog 86 #[.pointer (some ⟨rb,0,none⟩),.int .u8 k] w fun e w'=>e = .returned (.agg #[.int .u8 t.k,.string (R.str t.s),.int .i64 t.at_])/\RInv w' rb g ad ts (R.overS t st (t.k == k)) H/\w.grownBy w' (some rb):=by
 have ag:(t.k == k)=true->st.bad<0->st.K+1<ts.length:=by
  intro hi _
  rw[beq_iff_eq] at hi
  exact h.ok.goes st.K t ht (by rw[hi];exact ae) (by rw[hi];exact af)
 have ai:Y _:=ag
 have HT:Y _:=ht
 clear ag ht ae af
 have H0:Y _:=h
 have am:=zI h.rd
 have bg:=h.gl
 have ao:=h.ne
 have an:=h.lt
 clear h
 go_enter Tryz.func86,Tryz.ntmps86
 go_wp2_with fail
 refine(uL (H0.o.keep (zL _ _ _)) HT.o).mono ?_
 rintro e w1 ⟨rfl,aa⟩
 have I1:Y (RInv w1 rb g ad ts st H):=(H0.o.keep (zL _ _ _)).keep aa
 go_wp2_with fail
 refine(zhO (I1.o.keep (zL _ _ _)) HT.o (t.k == k) ai.o).mono ?_
 rintro e w3 ⟨rfl,I3,ab⟩
 have J3:Y _:=I3
 clear I3
 have k1:=aa.size
 have k3:=ab.size
 simp only[World.heap_alloc_size] at k1 k3
 have n1:=qz ab (by simp;omega)
 have n0:=zF (zF (qz aa (by simp)) (zL w1 _ none) (by simp)) ab (by simp;omega)
 have ap:w3.cell? ⟨w1.heap.size,0,none⟩=some (.int .u8 t.k):=zB n1
 have aq:w3.cell? ⟨w1.heap.size,1,none⟩=some (.string (R.str t.s)):=zB n1
 have ar:w3.cell? ⟨w1.heap.size,2,none⟩=some (.int .i64 t.at_):=zB n1
 have aj:w3.cell? ⟨w.heap.size,0,none⟩=some (.int .u8 0):=zB n0
 have ak:w3.cell? ⟨w.heap.size,1,none⟩=some (.string ⟨#[]⟩):=zB n0
 have al:w3.cell? ⟨w.heap.size,2,none⟩=some (.int .i64 0):=zB n0
 have f0:=zuG 0 n0
 have f1:=zuG 1 n0
 have f2:=zuG 2 n0
 have HG:Y (w.grownBy w3 (some rb)):=zD (zb (zD (zD (zL w _ none) aa) (zL w1 _ none)) _) ab
 clear n0 n1 aa ab
 go_wp2
 have ah:=zD (zD (zG w3 w.heap.size 0 (.int .u8 t.k)) (zG _ w.heap.size 1 (.string (R.str t.s)))) (zG _ w.heap.size 2 (.int .i64 t.at_))
 exact bodyPost_ret (v:=.agg #[.int .u8 t.k,.string (R.str t.s),.int .i64 t.at_]) (by simp[results,Tryz.results86,go_sem,aj,ak,al]) rfl
  ⟨rfl,J3.o.other ah (by omega) (by omega),zm HG.o ah (zw _)⟩
theorem zlA (s:ByteArray)(k:Nat)(h:k<s.size):R.num (s.data.toList.take (k+1))=R.numStep (R.num (s.data.toList.take k)) s[k]:=by
 rw[R.take_snoc s k h];unfold R.num;rw[List.foldl_append];rfl
theorem fm (a c:Value)(s:ByteArray)(w:World)(hs:s.size<=3000) :
  Calls Tryz.prog 132 #[.agg #[a,.string s,c]] w fun e w'=>e = .returned (.int .i64 (R.num s.data.toList))/\w.grownBy w' none:=by
 go_enter Tryz.func132,Tryz.ntmps132
 go_wp2
 go_loop [3,4] (fun n i=>∃k:Nat,k<=s.size/\i = .int .i64 k/\n = .int .i64 (R.num (s.data.toList.take k))) (fun _ i=>s.size - (intOf i).toNat)
 case atStart=>exact⟨0,zo _,rfl,rfl⟩
 case round=>
  obtain⟨k,hk,rfl,rfl⟩:=hrel
  by_cases aa:k<s.size
  ·have HN:Y _:=zlA s k aa
   generalize R.num (s.data.toList.take k)=n at*
   generalize hb:s[k]=b at*
   go_wp2
   exact⟨⟨k+1,by omega,by go_num,by rw[HN.o];rfl⟩,by simp[intOf];omega⟩
  ·go_wp2
   go_ret
   exact⟨by rw[tW (by rw[R.size_eq];omega)];rfl,zL _ _ _⟩
theorem zg (w:World):w.grownBy w.drew none:=⟨rfl,rfl,rfl,zw _,fun _ _ _=>rfl⟩
def R.cur (ts:List R.Tok)(st:R.St):R.Tok:=ts.getD st.K ⟨0,[],0⟩
theorem RInv.cur {w:World}{rb g aa:Nat}{ts:List R.Tok}{st:R.St}{H:Value}(h:RInv w rb g aa ts st H):ts[st.K]?=some (R.cur ts st):=by
 unfold R.cur
 rw[List.getD_eq_getElem?_getD,xo h.lt];rfl
theorem RInv.curlen {w:World}{rb g aa:Nat}{ts:List R.Tok}{st:R.St}{H:Value}(h:RInv w rb g aa ts st H):(R.str (R.cur ts st).s).size<=3000:=by
 rw[R.str_size];exact h.ok.strs _ _ h.cur
def R.needS (ts:List R.Tok)(st:R.St)(s:List UInt8):R.St:=R.overS (R.cur ts st) st (R.isB st (R.cur ts st) s)
def R.kindS (ts:List R.Tok)(st:R.St)(k:Int):R.St:=R.overS (R.cur ts st) st ((R.cur ts st).k == k)
theorem xK {w:World}{rb g aa:Nat}{ts:List R.Tok}{st:R.St}{H:Value}(h:RInv w rb g aa ts st H)(s:ByteArray) :
  Calls Tryz.prog 84 #[.pointer (some ⟨rb,0,none⟩),.string s] w fun e w'=>e = .returned (.agg #[.int .u8 (R.cur ts st).k,.string (R.str (R.cur ts st).s),.int .i64 (R.cur ts st).at_])/\RInv w' rb g aa ts (R.needS ts st s.data.toList) H/\w.grownBy w' (some rb):=
 zpT h h.cur s
theorem vu {w:World}{rb g aa:Nat}{ts:List R.Tok}{st:R.St}{H:Value}(h:RInv w rb g aa ts st H)(k:Int)(ab:k≠0)(ad:k≠120) :
  Calls Tryz.prog 86 #[.pointer (some ⟨rb,0,none⟩),.int .u8 k] w fun e w'=>e = .returned (.agg #[.int .u8 (R.cur ts st).k,.string (R.str (R.cur ts st).s),.int .i64 (R.cur ts st).at_])/\RInv w' rb g aa ts (R.kindS ts st k) H/\w.grownBy w' (some rb):=
 zqA h h.cur k ab ad
theorem ky {w:World}{rb g aa:Nat}{ts:List R.Tok}{st:R.St}{H:Value}(h:RInv w rb g aa ts st H)(s:ByteArray) :
  Calls Tryz.prog 89 #[.pointer (some ⟨rb,0,none⟩),.string s] w fun e w'=>e = .returned (.bool (R.isB st (R.cur ts st) s.data.toList))/\w.grownBy w' none:=
 zpB h h.cur s
theorem tokbox {w1 w2:World}{a b c:Value}{rb:Nat}(hg:(w1.alloc (.cells #[a,b,c] 115)).grownBy w2 (some rb))(h:rb<w1.heap.size) :
  w2.cell? ⟨w1.heap.size,0,none⟩=some a/\w2.cell? ⟨w1.heap.size,1,none⟩=some b/\w2.cell? ⟨w1.heap.size,2,none⟩=some c:=by
 have n1:=qz hg (by simp;omega)
 exact⟨zB n1,zB n1,zB n1⟩
def R.pathS (ts:List R.Tok)(st:R.St):List UInt8×R.St:=
 ((R.cur ts st).s,R.notS (R.kindS ts st 34) (R.path (R.cur ts st).s) 4 (R.cur ts st).at_)
theorem zjD {w:World}{rb g ab:Nat}{ts:List R.Tok}{st:R.St}{H:Value}(h:RInv w rb g ab ts st H) :
  Calls Tryz.prog 133 #[.pointer (some ⟨rb,0,none⟩)] w fun e w'=>e = .returned (.string (R.str (R.pathS ts st).1))/\RInv w' rb g ab ts (R.pathS ts st).2 H/\w.grownBy w' (some rb):=by
 have hl:=h.curlen
 have ae:(R.str (R.cur ts st).s).size<=maxLen:=by unfold maxLen;omega
 have HP:Y (R.pathS ts st=((R.cur ts st).s,R.notS (R.kindS ts st 34) (R.path (R.cur ts st).s) 4 (R.cur ts st).at_)):=rfl
 have H0:Y _:=h
 have HL:Y _:=ae
 generalize R.pathS ts st=r at*
 clear h hl ae
 go_enter Tryz.func133,Tryz.ntmps133
 go_wp2_with fail
 refine(vu H0.o 34 (by decide) (by decide)).mono ?_
 rintro e w1 ⟨rfl,I1,ad⟩
 have b1:=zI I1.rd
 have J1:Y _:=I1
 clear I1
 go_wp2_with fail
 refine(zcM _ _ HL.o).mono ?_
 rintro e af ⟨rfl,rfl⟩
 go_wp2_with fail
 refine(j8 (J1.o.keep (zL _ _ _)) _ _ _ _ _).mono ?_
 rintro e w2 ⟨rfl,I2,aa⟩
 obtain⟨q0,q1,q2⟩:=tokbox aa b1
 have J2:Y _:=I2
 clear I2
 have HG:Y (w.grownBy w2 (some rb)):=zD ad (zD (zL _ _ _) aa)
 clear ad aa
 go_wp2
 go_ret
 rw[R.str_toList] at J2
 exact⟨by rw[HP.o];rfl,by rw[HP.o];exact J2.o,HG.o⟩
def R.valueS (ts:List R.Tok)(st:R.St):List UInt8×R.St:=
 ((R.cur ts (R.needS ts st [61])).s,R.notS (R.kindS ts (R.needS ts st [61]) 34) (R.value (R.cur ts (R.needS ts st [61])).s) 4 (R.cur ts (R.needS ts st [61])).at_)
theorem zeU {w:World}{rb g ab:Nat}{ts:List R.Tok}{st:R.St}{H:Value}(h:RInv w rb g ab ts st H) :
  Calls Tryz.prog 191 #[.pointer (some ⟨rb,0,none⟩)] w fun e w'=>e = .returned (.string (R.str (R.valueS ts st).1))/\RInv w' rb g ab ts (R.valueS ts st).2 H/\w.grownBy w' (some rb):=by
 have HP:Y (R.valueS ts st=((R.cur ts (R.needS ts st [61])).s,R.notS (R.kindS ts (R.needS ts st [61]) 34) (R.value (R.cur ts (R.needS ts st [61])).s) 4 (R.cur ts (R.needS ts st [61])).at_)):=rfl
 have H0:Y _:=h
 generalize R.valueS ts st=r at*
 clear h
 go_enter Tryz.func191,Tryz.ntmps191
 go_wp2_with fail
 refine(xK H0.o _).mono ?_
 rintro e w0 ⟨rfl,I0,ad⟩
 rw[show(⟨#[61]⟩:ByteArray).data.toList=[61] from rfl] at I0
 have J0:Y _:=I0
 clear I0
 generalize R.needS ts st [61]=st0 at*
 have hl:=J0.o.curlen
 have HL:Y ((R.str (R.cur ts st0).s).size<=maxLen):=by show _<=_;unfold maxLen;omega
 clear hl
 go_wp2_with fail
 refine(vu J0.o 34 (by decide) (by decide)).mono ?_
 rintro e w1 ⟨rfl,I1,ae⟩
 have b1:=zI I1.rd
 have J1:Y _:=I1
 clear I1
 go_wp2_with fail
 refine(za5 _ _ HL.o).mono ?_
 rintro e af ⟨rfl,rfl⟩
 go_wp2_with fail
 refine(j8 (J1.o.keep (zL _ _ _)) _ _ _ _ _).mono ?_
 rintro e w2 ⟨rfl,I2,aa⟩
 obtain⟨q0,q1,q2⟩:=tokbox aa b1
 have J2:Y _:=I2
 clear I2
 have HG:Y (w.grownBy w2 (some rb)):=zD ad (zD ae (zD (zL _ _ _) aa))
 clear ad ae aa
 go_wp2
 go_ret
 rw[R.str_toList] at J2
 exact⟨by rw[HP.o];rfl,by rw[HP.o];exact J2.o,HG.o⟩
def R.among (l:List (List UInt8))(s:List UInt8)(p:Int)(st:R.St):R.St:=l.foldl (fun st a=>R.notS st (decide (a≠s)) 5 p) st
def R.headerS (ts:List R.Tok)(st:R.St)(l:List (List UInt8)):List UInt8×R.St:=
 (R.lower (R.cur ts st).s,R.among l (R.lower (R.cur ts st).s) (R.cur ts st).at_ (R.notS (R.kindS ts st 34) (R.header (R.cur ts st).s true) 4 (R.cur ts st).at_))
def zf (l:List (List UInt8)):List Value:=l.map fun s=>.string (R.str s)
def StrRow (w:World)(v:Value)(l:List (List UInt8)):Prop:=w.ownsRow 0 9 1 v l.length (zf l)
theorem fZ {w:World}{rb g ae:Nat}{ts:List R.Tok}{st:R.St}{H:Value}(h:RInv w rb g ae ts st H)(v:Value)(l:List (List UInt8))(hv:StrRow w v l)(hn:l.length<=10000)(am:v.ownBlock≠some rb) :
  Calls Tryz.prog 190 #[.pointer (some ⟨rb,0,none⟩),v] w fun e w'=>e = .returned (.string (R.str (R.headerS ts st l).1))/\RInv w' rb g ae ts (R.headerS ts st l).2 H/\w.grownBy w' (some rb):=by
 have hl:=h.curlen
 have HL:Y ((R.str (R.cur ts st).s).size<=100000):=by show _<=_;omega
 have HP:Y (R.headerS ts st l=(R.lower (R.cur ts st).s,R.among l (R.lower (R.cur ts st).s) (R.cur ts st).at_ (R.notS (R.kindS ts st 34) (R.header (R.cur ts st).s true) 4 (R.cur ts st).at_))):=rfl
 have H0:Y _:=h
 have HV:Y _:=hv
 generalize R.headerS ts st l=r at*
 clear h hv hl
 go_enter Tryz.func190,Tryz.ntmps190
 go_wp2_with fail
 refine(vu H0.o 34 (by decide) (by decide)).mono ?_
 rintro e w1 ⟨rfl,I1,ai⟩
 have b1:=zI I1.rd
 have J1:Y _:=I1
 clear I1
 go_wp2_with fail
 refine(fd _ _ _ HL.o).mono ?_
 rintro e w2 ⟨rfl,ag⟩
 have aa:=qJ ag
 obtain⟨q0,q1,q2⟩:=tokbox (zb aa (some rb)) b1
 have J2:Y _:=(J1.o.keep (zL _ _ _)).keep aa
 clear ag
 go_wp2_with fail
 refine(j8 J2.o _ _ _ _ _).mono ?_
 rintro e w3 ⟨rfl,I3,aj⟩
 rw[R.str_toList] at I3
 have J3:Y _:=I3
 clear I3 q0 q1 q2
 have ab:=zD (zb aa (some rb)) aj
 obtain⟨q0,q1,q2⟩:=tokbox ab b1
 go_wp2_with fail
 refine(za3 _ _ HL.o).mono ?_
 rintro e w4 ⟨rfl,ah⟩
 have ad:=qJ ah
 have J4:Y _:=J3.o.keep ad
 have ao:=J (zF (qz ab (by simp;omega)) ad (by simp))
 have HG:Y (w.grownBy w4 (some rb)):=zD ai (zD (zD (zL w1 _ _) ab) (zb ad _))
 rw[R.str_toList]
 clear ah ai aa aj ad ab q0 q1 q2
 have af:Y (StrRow w4 v l):=HV.o.kept HG.o (Or.inr am)
 generalize R.notS (R.kindS ts st 34) (R.header (R.cur ts st).s true) 4 (R.cur ts st).at_=st4 at*
 have ar:(R.str (R.lower (R.cur ts st).s)).size<=3000:=by rw[R.str_size,vW];exact H0.o.ok.strs _ _ H0.o.cur
 generalize au:R.lower (R.cur ts st).s=lo at*
 generalize R.cur ts st=t at*
 go_wp2_with fail
 go_loopw [8] (fun i wr=>∃k:Nat,k<=l.length/\i = .int .i64 k/\Y (RInv wr rb g ae ts (R.among (l.take k) lo t.at_ st4) H)/\Y (w4.grownBy wr (some rb))) (fun i _=>l.length - (intOf i).toNat)
 case atStart=>exact⟨0,zo _,rfl,J4,ze _ _⟩
 case round=>
  obtain⟨k,hk,rfl,IR,HR⟩:=hrel
  have aq:v.ownBlock=none/\l=[]/\v = .slice none 0 0\/∃gv cv,v = .slice (some ⟨gv,0,none⟩) l.length cv/\w4.ownsRow 0 9 1 (.slice (some ⟨gv,0,none⟩) l.length cv) l.length (zf l):=by
   rcases af.o with ⟨h1,h2 | ⟨gv,cv,cur,rfl,h3⟩⟩
   ·left;refine⟨by rw[h2.1];rfl,?_,h2.1⟩;have:=h2.2;exact List.length_eq_zero_iff.1 this
   ·right;exact⟨gv,cv,rfl,af.o⟩
  rcases aq with ⟨_,rfl,rfl⟩ | ⟨gv,cv,rfl,hrow⟩
  ·have ap:k=0:=by simpa using hk
   subst ap
   go_wp2
   go_ret
   exact⟨by rw[HP.o];rfl,by rw[HP.o];exact IR.o,zD HG.o HR.o⟩
  ·by_cases al:k<l.length
   ·have c1:wr.cell? ⟨gv,k,none⟩=some (.string (R.str l[k])):=by
     have hc:=hrow.cellAt k (by omega)
     rw[HR.o.cell (a:=⟨gv,k,none⟩) (v:=.string (R.str l[k])) (by rw[hc];unfold zf;simp[al]) (by simpa[Value.ownBlock] using am)]
    obtain⟨q0,q1,q2⟩:wr.cell? ⟨w1.heap.size,0,none⟩=some (.int .u8 t.k)/\wr.cell? ⟨w1.heap.size,1,none⟩=some (.string (R.str t.s))/\wr.cell? ⟨w1.heap.size,2,none⟩=some (.int .i64 t.at_):=by
     have n1:=zF ao.o HR.o (by simp;omega)
     exact⟨zB n1,zB n1,zB n1⟩
    have hq:((R.str l[k]).toList == (R.str lo).toList)=decide (l[k]=lo):=by
     rw[toLs,ByteArray.toList_eq,R.str_toList]
    have HA:Y (R.among (l.take (k+1)) lo t.at_ st4=R.notS (R.among (l.take k) lo t.at_ st4) (!decide (l[k]=lo)) 5 t.at_):=by
     show R.among _ _ _ _=_
     unfold R.among;rw[uo al,List.foldl_append,<-decide_not];rfl
    generalize decide (l[k]=lo)=bb at*
    generalize R.str l[k]=lk at*
    generalize R.among (l.take k) lo t.at_ st4=stk at*
    go_wp2
    go_region_with (go_at_call 85;refine(j8 (IR.o.keep (zg wr)) _ _ _ _ _).mono ?_;rintro e w5 ⟨rfl,I5,ak⟩)
    all_goals
     rw[<-HA.o] at I5
     have J5:Y _:=I5
     have an:Y _:=zD HR.o (zD (zb (zg wr) _) ak)
     clear I5 ak
     go_wp2
     exact⟨⟨k+1,by omega,by go_num,J5,an⟩,by simp[intOf];omega⟩
   ·go_wp2
    go_ret
    exact⟨by rw[HP.o];rfl,by rw[HP.o];rw[tW (by omega)] at IR;exact IR.o,zD HG.o HR.o⟩
end Go.Proofs.YtfocdefchbnkpaaGreatDoor
namespace Go.Proofs
open Go.Shelf Go.RowKit Go.Lib
def Tryz.lays137_ren : Go.Shelf.Ren := ⟨fun | 137 => 264 | 217 => 323 | 266 => 375 | n => n, fun | 9 => 9 | 5 => 5 | 3 => 3 | n => n, fun | n => n⟩
theorem Tryz.lays137 : Go.Proofs.Lays.n137 Tryz.prog Tryz.lays137_ren := {
  mixed := by kernel_rfl
  f137 := Tryz.func264.trans (congrArg some (by kernel_rfl))
  f217 := Tryz.func323.trans (congrArg some (by kernel_rfl))
  f266 := Tryz.func375.trans (congrArg some (by kernel_rfl))
  t3 := Tryz.underlying3
  a3 := Tryz.isAgg3
  z3 := Tryz.sizeOf3
  v3 := Tryz.zeroValue3
  t5 := Tryz.underlying5
  a5 := Tryz.isAgg5
  z5 := Tryz.sizeOf5
  v5 := Tryz.zeroValue5
  t9 := Tryz.underlying9
  a9 := Tryz.isAgg9
  z9 := Tryz.sizeOf9
  v9 := Tryz.zeroValue9 }
theorem Tryz.strings_IndexByte (s : ByteArray) (c : Int) (w : World) :
    Calls Tryz.prog 264 #[.string s, .int .u8 c] w fun e w' => e = .returned (.int .i64 (Lib.indexByte s.data.toList c.toNat.toUInt8)) ∧ w' = w := Any.strings_IndexByte Tryz.lays137 s c w
def Tryz.lays219_ren : Go.Shelf.Ren := ⟨fun | 219 => 364 | 217 => 323 | 225 => 405 | 224 => 406 | 267 => 407 | 266 => 375 | 314 => 425 | n => n, fun | 9 => 9 | 3 => 3 | 4 => 4 | 5 => 5 | 46 => 220 | 146 => 388 | 51 => 152 | n => n, fun | 1 => 0 | n => n⟩
theorem Tryz.lays219 : Go.Proofs.Lays.n219 Tryz.prog Tryz.lays219_ren := {
  mixed := by kernel_rfl
  f217 := Tryz.func323.trans (congrArg some (by kernel_rfl))
  f219 := Tryz.func364.trans (congrArg some (by kernel_rfl))
  f224 := Tryz.func406.trans (congrArg some (by kernel_rfl))
  f225 := Tryz.func405.trans (congrArg some (by kernel_rfl))
  f266 := Tryz.func375.trans (congrArg some (by kernel_rfl))
  f267 := Tryz.func407.trans (congrArg some (by kernel_rfl))
  f314 := Tryz.func425.trans (congrArg some (by kernel_rfl))
  t3 := Tryz.underlying3
  a3 := Tryz.isAgg3
  z3 := Tryz.sizeOf3
  v3 := Tryz.zeroValue3
  t4 := Tryz.underlying4
  a4 := Tryz.isAgg4
  z4 := Tryz.sizeOf4
  v4 := Tryz.zeroValue4
  t5 := Tryz.underlying5
  a5 := Tryz.isAgg5
  z5 := Tryz.sizeOf5
  v5 := Tryz.zeroValue5
  t9 := Tryz.underlying9
  a9 := Tryz.isAgg9
  z9 := Tryz.sizeOf9
  v9 := Tryz.zeroValue9
  t46 := Tryz.underlying220
  a46 := Tryz.isAgg220
  z46 := Tryz.sizeOf220
  v46 := Tryz.zeroValue220
  t51 := Tryz.underlying152
  a51 := Tryz.isAgg152
  z51 := Tryz.sizeOf152
  v51 := Tryz.zeroValue152
  t146 := Tryz.underlying388
  a146 := Tryz.isAgg388
  z146 := Tryz.sizeOf388
  v146 := Tryz.zeroValue388
  g1 := by kernel_rfl }
theorem Tryz.stringslite_Index_one (s : ByteArray) (c : UInt8) (w : World) :
    Calls Tryz.prog 364 #[.string s, .string ⟨#[c]⟩] w fun e w' => e = .returned (.int .i64 (Lib.indexByte s.data.toList c)) ∧ w' = w := Any.stringslite_Index_one Tryz.lays219 s c w
def Tryz.lays144_ren : Go.Shelf.Ren := ⟨fun | 144 => 322 | 143 => 374 | 219 => 364 | 217 => 323 | 225 => 405 | 224 => 406 | 267 => 407 | 266 => 375 | 314 => 425 | n => n, fun | 9 => 9 | 4 => 4 | 3 => 3 | 5 => 5 | 46 => 220 | 146 => 388 | 51 => 152 | n => n, fun | 1 => 0 | n => n⟩
theorem Tryz.lays144 : Go.Proofs.Lays.n144 Tryz.prog Tryz.lays144_ren := {
  mixed := by kernel_rfl
  f143 := Tryz.func374.trans (congrArg some (by kernel_rfl))
  f144 := Tryz.func322.trans (congrArg some (by kernel_rfl))
  f217 := Tryz.func323.trans (congrArg some (by kernel_rfl))
  f219 := Tryz.func364.trans (congrArg some (by kernel_rfl))
  f224 := Tryz.func406.trans (congrArg some (by kernel_rfl))
  f225 := Tryz.func405.trans (congrArg some (by kernel_rfl))
  f266 := Tryz.func375.trans (congrArg some (by kernel_rfl))
  f267 := Tryz.func407.trans (congrArg some (by kernel_rfl))
  f314 := Tryz.func425.trans (congrArg some (by kernel_rfl))
  t3 := Tryz.underlying3
  a3 := Tryz.isAgg3
  z3 := Tryz.sizeOf3
  v3 := Tryz.zeroValue3
  t4 := Tryz.underlying4
  a4 := Tryz.isAgg4
  z4 := Tryz.sizeOf4
  v4 := Tryz.zeroValue4
  t5 := Tryz.underlying5
  a5 := Tryz.isAgg5
  z5 := Tryz.sizeOf5
  v5 := Tryz.zeroValue5
  t9 := Tryz.underlying9
  a9 := Tryz.isAgg9
  z9 := Tryz.sizeOf9
  v9 := Tryz.zeroValue9
  t46 := Tryz.underlying220
  a46 := Tryz.isAgg220
  z46 := Tryz.sizeOf220
  v46 := Tryz.zeroValue220
  t51 := Tryz.underlying152
  a51 := Tryz.isAgg152
  z51 := Tryz.sizeOf152
  v51 := Tryz.zeroValue152
  t146 := Tryz.underlying388
  a146 := Tryz.isAgg388
  z146 := Tryz.sizeOf388
  v146 := Tryz.zeroValue388
  g1 := by kernel_rfl }
theorem Tryz.strings_Contains_one (s : ByteArray) (c : UInt8) (w : World) :
    Calls Tryz.prog 322 #[.string s, .string ⟨#[c]⟩] w fun e w' => e = .returned (.bool (decide (0 ≤ Lib.indexByte s.data.toList c))) ∧ w' = w := Any.strings_Contains_one Tryz.lays144 s c w
def Tryz.lays172_ren : Go.Shelf.Ren := ⟨fun | 172 => 236 | 244 => 306 | 245 => 307 | 247 => 359 | 279 => 360 | 280 => 361 | 281 => 362 | 282 => 363 | 287 => 402 | 316 => 403 | 171 => 159 | 205 => 404 | 321 => 423 | 322 => 424 | 243 => 219 | 246 => 298 | 283 => 346 | 284 => 347 | 285 => 348 | 286 => 349 | 129 => 285 | 317 => 387 | 318 => 388 | 319 => 389 | 320 => 390 | 337 => 415 | 338 => 416 | n => n, fun | 9 => 9 | 3 => 3 | 75 => 270 | 76 => 271 | 4 => 4 | 5 => 5 | 167 => 421 | 37 => 32 | 0 => 0 | 85 => 422 | 2 => 2 | 168 => 424 | 53 => 60 | 175 => 451 | 46 => 220 | 210 => 454 | 127 => 215 | 145 => 466 | 143 => 464 | 21 => 21 | 171 => 415 | 173 => 417 | 212 => 441 | 51 => 152 | 20 => 20 | 213 => 442 | 232 => 469 | 233 => 470 | 80 => 58 | n => n, fun | 15 => 2 | 16 => 3 | 17 => 1 | 18 => 4 | 19 => 5 | n => n⟩
theorem Tryz.lays172 : Go.Proofs.Lays.n172 Tryz.prog Tryz.lays172_ren := {
  mixed := by kernel_rfl
  f129 := Tryz.func285.trans (congrArg some (by kernel_rfl))
  f171 := Tryz.func159.trans (congrArg some (by kernel_rfl))
  f172 := Tryz.func236.trans (congrArg some (by kernel_rfl))
  f205 := Tryz.func404.trans (congrArg some (by kernel_rfl))
  f243 := Tryz.func219.trans (congrArg some (by kernel_rfl))
  f244 := Tryz.func306.trans (congrArg some (by kernel_rfl))
  f245 := Tryz.func307.trans (congrArg some (by kernel_rfl))
  f246 := Tryz.func298.trans (congrArg some (by kernel_rfl))
  f247 := Tryz.func359.trans (congrArg some (by kernel_rfl))
  f279 := Tryz.func360.trans (congrArg some (by kernel_rfl))
  f280 := Tryz.func361.trans (congrArg some (by kernel_rfl))
  f281 := Tryz.func362.trans (congrArg some (by kernel_rfl))
  f282 := Tryz.func363.trans (congrArg some (by kernel_rfl))
  f283 := Tryz.func346.trans (congrArg some (by kernel_rfl))
  f284 := Tryz.func347.trans (congrArg some (by kernel_rfl))
  f285 := Tryz.func348.trans (congrArg some (by kernel_rfl))
  f286 := Tryz.func349.trans (congrArg some (by kernel_rfl))
  f287 := Tryz.func402.trans (congrArg some (by kernel_rfl))
  f316 := Tryz.func403.trans (congrArg some (by kernel_rfl))
  f317 := Tryz.func387.trans (congrArg some (by kernel_rfl))
  f318 := Tryz.func388.trans (congrArg some (by kernel_rfl))
  f319 := Tryz.func389.trans (congrArg some (by kernel_rfl))
  f320 := Tryz.func390.trans (congrArg some (by kernel_rfl))
  f321 := Tryz.func423.trans (congrArg some (by kernel_rfl))
  f322 := Tryz.func424.trans (congrArg some (by kernel_rfl))
  f337 := Tryz.func415.trans (congrArg some (by kernel_rfl))
  f338 := Tryz.func416.trans (congrArg some (by kernel_rfl))
  t0 := Tryz.underlying0
  a0 := Tryz.isAgg0
  z0 := Tryz.sizeOf0
  v0 := Tryz.zeroValue0
  t2 := Tryz.underlying2
  a2 := Tryz.isAgg2
  z2 := Tryz.sizeOf2
  v2 := Tryz.zeroValue2
  t3 := Tryz.underlying3
  a3 := Tryz.isAgg3
  z3 := Tryz.sizeOf3
  v3 := Tryz.zeroValue3
  t4 := Tryz.underlying4
  a4 := Tryz.isAgg4
  z4 := Tryz.sizeOf4
  v4 := Tryz.zeroValue4
  t5 := Tryz.underlying5
  a5 := Tryz.isAgg5
  z5 := Tryz.sizeOf5
  v5 := Tryz.zeroValue5
  t9 := Tryz.underlying9
  a9 := Tryz.isAgg9
  z9 := Tryz.sizeOf9
  v9 := Tryz.zeroValue9
  t20 := Tryz.underlying20
  a20 := Tryz.isAgg20
  z20 := Tryz.sizeOf20
  v20 := Tryz.zeroValue20
  t21 := Tryz.underlying21
  a21 := Tryz.isAgg21
  z21 := Tryz.sizeOf21
  v21 := Tryz.zeroValue21
  t37 := Tryz.underlying32
  a37 := Tryz.isAgg32
  z37 := Tryz.sizeOf32
  v37 := Tryz.zeroValue32
  t46 := Tryz.underlying220
  a46 := Tryz.isAgg220
  z46 := Tryz.sizeOf220
  v46 := Tryz.zeroValue220
  t51 := Tryz.underlying152
  a51 := Tryz.isAgg152
  z51 := Tryz.sizeOf152
  v51 := Tryz.zeroValue152
  t53 := Tryz.underlying60
  a53 := Tryz.isAgg60
  z53 := Tryz.sizeOf60
  v53 := Tryz.zeroValue60
  t75 := Tryz.underlying270
  a75 := Tryz.isAgg270
  z75 := Tryz.sizeOf270
  v75 := Tryz.zeroValue270
  t76 := Tryz.underlying271
  a76 := Tryz.isAgg271
  z76 := Tryz.sizeOf271
  v76 := Tryz.zeroValue271
  t85 := Tryz.underlying422
  a85 := Tryz.isAgg422
  z85 := Tryz.sizeOf422
  v85 := Tryz.zeroValue422
  t127 := Tryz.underlying215
  a127 := Tryz.isAgg215
  z127 := Tryz.sizeOf215
  v127 := Tryz.zeroValue215
  t143 := Tryz.underlying464
  a143 := Tryz.isAgg464
  z143 := Tryz.sizeOf464
  v143 := Tryz.zeroValue464
  t145 := Tryz.underlying466
  a145 := Tryz.isAgg466
  z145 := Tryz.sizeOf466
  v145 := Tryz.zeroValue466
  t167 := Tryz.underlying421
  a167 := Tryz.isAgg421
  z167 := Tryz.sizeOf421
  v167 := Tryz.zeroValue421
  t168 := Tryz.underlying424
  a168 := Tryz.isAgg424
  z168 := Tryz.sizeOf424
  v168 := Tryz.zeroValue424
  t171 := Tryz.underlying415
  a171 := Tryz.isAgg415
  z171 := Tryz.sizeOf415
  v171 := Tryz.zeroValue415
  t173 := Tryz.underlying417
  a173 := Tryz.isAgg417
  z173 := Tryz.sizeOf417
  v173 := Tryz.zeroValue417
  t175 := Tryz.underlying451
  a175 := Tryz.isAgg451
  z175 := Tryz.sizeOf451
  v175 := Tryz.zeroValue451
  t210 := Tryz.underlying454
  a210 := Tryz.isAgg454
  z210 := Tryz.sizeOf454
  v210 := Tryz.zeroValue454
  t212 := Tryz.underlying441
  a212 := Tryz.isAgg441
  z212 := Tryz.sizeOf441
  v212 := Tryz.zeroValue441
  t213 := Tryz.underlying442
  a213 := Tryz.isAgg442
  z213 := Tryz.sizeOf442
  t232 := Tryz.underlying469
  a232 := Tryz.isAgg469
  z232 := Tryz.sizeOf469
  v232 := Tryz.zeroValue469
  t233 := Tryz.underlying470
  a233 := Tryz.isAgg470
  z233 := Tryz.sizeOf470
  v233 := Tryz.zeroValue470
  g15 := by kernel_rfl
  g16 := by kernel_rfl
  g17 := by kernel_rfl
  g18 := by kernel_rfl
  g19 := by kernel_rfl }
theorem Tryz.strconv_Atoi (s : ByteArray) (n : Int) (hl : s.size ≤ 18) (h : Lib.atoi s.data.toList = some n) (w : World) :
    Calls Tryz.prog 236 #[.string s] w fun e w' => e = .returned (.tuple #[.int .i64 n, .nilIface]) ∧ ∃ t, w' = Lib.bytesWorld w 5 t := Any.strconv_Atoi Tryz.lays172 s n hl h w
def Tryz.lays99_ren : Go.Shelf.Ren := ⟨fun | 99 => 216 | 206 => 230 | n => n, fun | 9 => 9 | 4 => 4 | 3 => 3 | n => n, fun | n => n⟩
theorem Tryz.lays99 : Go.Proofs.Lays.n99 Tryz.prog Tryz.lays99_ren := {
  mixed := by kernel_rfl
  f99 := Tryz.func216.trans (congrArg some (by kernel_rfl))
  f206 := Tryz.func230.trans (congrArg some (by kernel_rfl))
  t3 := Tryz.underlying3
  a3 := Tryz.isAgg3
  z3 := Tryz.sizeOf3
  v3 := Tryz.zeroValue3
  t4 := Tryz.underlying4
  a4 := Tryz.isAgg4
  z4 := Tryz.sizeOf4
  v4 := Tryz.zeroValue4
  t9 := Tryz.underlying9
  a9 := Tryz.isAgg9
  z9 := Tryz.sizeOf9
  v9 := Tryz.zeroValue9 }
theorem Tryz.strings_HasPrefix (s p : ByteArray) (w : World) :
    Calls Tryz.prog 216 #[.string s, .string p] w fun e w' => e = .returned (.bool (Lib.hasPrefix s.data.toList p.data.toList)) ∧ w' = w := Any.strings_HasPrefix Tryz.lays99 s p w
def Tryz.lays101_ren : Go.Shelf.Ren := ⟨fun | 101 => 244 | 208 => 312 | 206 => 230 | n => n, fun | 9 => 9 | 4 => 4 | 3 => 3 | n => n, fun | n => n⟩
theorem Tryz.lays101 : Go.Proofs.Lays.n101 Tryz.prog Tryz.lays101_ren := {
  mixed := by kernel_rfl
  f101 := Tryz.func244.trans (congrArg some (by kernel_rfl))
  f206 := Tryz.func230.trans (congrArg some (by kernel_rfl))
  f208 := Tryz.func312.trans (congrArg some (by kernel_rfl))
  t3 := Tryz.underlying3
  a3 := Tryz.isAgg3
  z3 := Tryz.sizeOf3
  v3 := Tryz.zeroValue3
  t4 := Tryz.underlying4
  a4 := Tryz.isAgg4
  z4 := Tryz.sizeOf4
  v4 := Tryz.zeroValue4
  t9 := Tryz.underlying9
  a9 := Tryz.isAgg9
  z9 := Tryz.sizeOf9
  v9 := Tryz.zeroValue9 }
theorem Tryz.strings_TrimPrefix (s p : ByteArray) (w : World) :
    Calls Tryz.prog 244 #[.string s, .string p] w fun e w' => e = .returned (.string ⟨(Lib.trimPrefix s.data.toList p.data.toList).toArray⟩) ∧ w' = w := Any.strings_TrimPrefix Tryz.lays101 s p w
def Tryz.lays160_ren : Go.Shelf.Ren := ⟨fun | 160 => 356 | 232 => 395 | 231 => 394 | 227 => 396 | 234 => 398 | 233 => 397 | 236 => 400 | 235 => 399 | 228 => 420 | 271 => 422 | 151 => 421 | 197 => 418 | 120 => 429 | 152 => 428 | 260 => 427 | 137 => 264 | 119 => 430 | 224 => 406 | 225 => 405 | 217 => 323 | 266 => 375 | n => n, fun | 9 => 9 | 4 => 4 | 3 => 3 | 5 => 5 | 117 => 447 | 116 => 446 | 0 => 0 | 124 => 450 | 21 => 21 | 105 => 460 | 46 => 220 | 119 => 472 | 139 => 475 | 138 => 474 | n => n, fun | 3 => 6 | 4 => 7 | n => n⟩
theorem Tryz.lays160 : Go.Proofs.Lays.n160 Tryz.prog Tryz.lays160_ren := {
  mixed := by kernel_rfl
  f119 := Tryz.func430.trans (congrArg some (by kernel_rfl))
  f120 := Tryz.func429.trans (congrArg some (by kernel_rfl))
  f137 := Tryz.func264.trans (congrArg some (by kernel_rfl))
  f151 := Tryz.func421.trans (congrArg some (by kernel_rfl))
  f152 := Tryz.func428.trans (congrArg some (by kernel_rfl))
  f160 := Tryz.func356.trans (congrArg some (by kernel_rfl))
  f197 := Tryz.func418.trans (congrArg some (by kernel_rfl))
  f217 := Tryz.func323.trans (congrArg some (by kernel_rfl))
  f224 := Tryz.func406.trans (congrArg some (by kernel_rfl))
  f225 := Tryz.func405.trans (congrArg some (by kernel_rfl))
  f227 := Tryz.func396.trans (congrArg some (by kernel_rfl))
  f228 := Tryz.func420.trans (congrArg some (by kernel_rfl))
  f231 := Tryz.func394.trans (congrArg some (by kernel_rfl))
  f232 := Tryz.func395.trans (congrArg some (by kernel_rfl))
  f233 := Tryz.func397.trans (congrArg some (by kernel_rfl))
  f234 := Tryz.func398.trans (congrArg some (by kernel_rfl))
  f235 := Tryz.func399.trans (congrArg some (by kernel_rfl))
  f236 := Tryz.func400.trans (congrArg some (by kernel_rfl))
  f260 := Tryz.func427.trans (congrArg some (by kernel_rfl))
  f266 := Tryz.func375.trans (congrArg some (by kernel_rfl))
  f271 := Tryz.func422.trans (congrArg some (by kernel_rfl))
  t0 := Tryz.underlying0
  a0 := Tryz.isAgg0
  z0 := Tryz.sizeOf0
  v0 := Tryz.zeroValue0
  t3 := Tryz.underlying3
  a3 := Tryz.isAgg3
  z3 := Tryz.sizeOf3
  v3 := Tryz.zeroValue3
  t4 := Tryz.underlying4
  a4 := Tryz.isAgg4
  z4 := Tryz.sizeOf4
  v4 := Tryz.zeroValue4
  t5 := Tryz.underlying5
  a5 := Tryz.isAgg5
  z5 := Tryz.sizeOf5
  v5 := Tryz.zeroValue5
  t9 := Tryz.underlying9
  a9 := Tryz.isAgg9
  z9 := Tryz.sizeOf9
  v9 := Tryz.zeroValue9
  t21 := Tryz.underlying21
  a21 := Tryz.isAgg21
  z21 := Tryz.sizeOf21
  v21 := Tryz.zeroValue21
  t46 := Tryz.underlying220
  a46 := Tryz.isAgg220
  z46 := Tryz.sizeOf220
  v46 := Tryz.zeroValue220
  t105 := Tryz.underlying460
  a105 := Tryz.isAgg460
  z105 := Tryz.sizeOf460
  v105 := Tryz.zeroValue460
  t116 := Tryz.underlying446
  a116 := Tryz.isAgg446
  z116 := Tryz.sizeOf446
  t117 := Tryz.underlying447
  a117 := Tryz.isAgg447
  z117 := Tryz.sizeOf447
  v117 := Tryz.zeroValue447
  t119 := Tryz.underlying472
  a119 := Tryz.isAgg472
  z119 := Tryz.sizeOf472
  t124 := Tryz.underlying450
  a124 := Tryz.isAgg450
  z124 := Tryz.sizeOf450
  v124 := Tryz.zeroValue450
  t138 := Tryz.underlying474
  a138 := Tryz.isAgg474
  z138 := Tryz.sizeOf474
  v138 := Tryz.zeroValue474
  t139 := Tryz.underlying475
  a139 := Tryz.isAgg475
  z139 := Tryz.sizeOf475
  v139 := Tryz.zeroValue475
  g3 := by kernel_rfl
  g4 := by kernel_rfl }
theorem Tryz.strings_Trim_one (s : ByteArray) (c : UInt8) (hc : c.toNat < 128) (w : World) (hs : s.size ≤ 9223372036854775807) :
    Calls Tryz.prog 356 #[.string s, .string ⟨#[c]⟩] w fun e w' => e = .returned (.string ⟨(Lib.trimB s.data.toList c).toArray⟩) ∧ (w' = w ∨ w' = w.drew) := Any.strings_Trim_one Tryz.lays160 s c hc w hs
def Tryz.lays146_ren : Go.Shelf.Ren := ⟨fun | 146 => 301 | 221 => 351 | 268 => 391 | 138 => 392 | 143 => 374 | 195 => 417 | 197 => 418 | 218 => 419 | 219 => 364 | 260 => 427 | 217 => 323 | 225 => 405 | 224 => 406 | 267 => 407 | 266 => 375 | 314 => 425 | n => n, fun | 9 => 9 | 31 => 22 | 3 => 3 | 4 => 4 | 0 => 0 | 105 => 460 | 21 => 21 | 5 => 5 | 46 => 220 | 119 => 472 | 139 => 475 | 138 => 474 | 146 => 388 | 51 => 152 | n => n, fun | 1 => 0 | 3 => 6 | 4 => 7 | n => n⟩
theorem Tryz.lays146 : Go.Proofs.Lays.n146 Tryz.prog Tryz.lays146_ren := {
  mixed := by kernel_rfl
  f138 := Tryz.func392.trans (congrArg some (by kernel_rfl))
  f143 := Tryz.func374.trans (congrArg some (by kernel_rfl))
  f146 := Tryz.func301.trans (congrArg some (by kernel_rfl))
  f195 := Tryz.func417.trans (congrArg some (by kernel_rfl))
  f197 := Tryz.func418.trans (congrArg some (by kernel_rfl))
  f217 := Tryz.func323.trans (congrArg some (by kernel_rfl))
  f218 := Tryz.func419.trans (congrArg some (by kernel_rfl))
  f219 := Tryz.func364.trans (congrArg some (by kernel_rfl))
  f221 := Tryz.func351.trans (congrArg some (by kernel_rfl))
  f224 := Tryz.func406.trans (congrArg some (by kernel_rfl))
  f225 := Tryz.func405.trans (congrArg some (by kernel_rfl))
  f260 := Tryz.func427.trans (congrArg some (by kernel_rfl))
  f266 := Tryz.func375.trans (congrArg some (by kernel_rfl))
  f267 := Tryz.func407.trans (congrArg some (by kernel_rfl))
  f268 := Tryz.func391.trans (congrArg some (by kernel_rfl))
  f314 := Tryz.func425.trans (congrArg some (by kernel_rfl))
  t0 := Tryz.underlying0
  a0 := Tryz.isAgg0
  z0 := Tryz.sizeOf0
  v0 := Tryz.zeroValue0
  t3 := Tryz.underlying3
  a3 := Tryz.isAgg3
  z3 := Tryz.sizeOf3
  v3 := Tryz.zeroValue3
  t4 := Tryz.underlying4
  a4 := Tryz.isAgg4
  z4 := Tryz.sizeOf4
  v4 := Tryz.zeroValue4
  t5 := Tryz.underlying5
  a5 := Tryz.isAgg5
  z5 := Tryz.sizeOf5
  v5 := Tryz.zeroValue5
  t9 := Tryz.underlying9
  a9 := Tryz.isAgg9
  z9 := Tryz.sizeOf9
  v9 := Tryz.zeroValue9
  t21 := Tryz.underlying21
  a21 := Tryz.isAgg21
  z21 := Tryz.sizeOf21
  v21 := Tryz.zeroValue21
  t31 := Tryz.underlying22
  a31 := Tryz.isAgg22
  z31 := Tryz.sizeOf22
  v31 := Tryz.zeroValue22
  t46 := Tryz.underlying220
  a46 := Tryz.isAgg220
  z46 := Tryz.sizeOf220
  v46 := Tryz.zeroValue220
  t51 := Tryz.underlying152
  a51 := Tryz.isAgg152
  z51 := Tryz.sizeOf152
  v51 := Tryz.zeroValue152
  t105 := Tryz.underlying460
  a105 := Tryz.isAgg460
  z105 := Tryz.sizeOf460
  v105 := Tryz.zeroValue460
  t119 := Tryz.underlying472
  a119 := Tryz.isAgg472
  z119 := Tryz.sizeOf472
  t138 := Tryz.underlying474
  a138 := Tryz.isAgg474
  z138 := Tryz.sizeOf474
  v138 := Tryz.zeroValue474
  t139 := Tryz.underlying475
  a139 := Tryz.isAgg475
  z139 := Tryz.sizeOf475
  v139 := Tryz.zeroValue475
  t146 := Tryz.underlying388
  a146 := Tryz.isAgg388
  z146 := Tryz.sizeOf388
  v146 := Tryz.zeroValue388
  g1 := by kernel_rfl
  g3 := by kernel_rfl
  g4 := by kernel_rfl }
theorem Tryz.strings_Split (s sep : ByteArray) (m : Int) (w : World) (hs : s.size < 4294967281) (hm : w.cell? ⟨0, 0, none⟩ = some (.int .i64 m)) (h1 : 1 ≤ sep.size) :
    Calls Tryz.prog 301 #[.string s, .string sep] w fun e w' =>
      e = .returned (.slice (some ⟨w.heap.size, 0, none⟩) (Lib.countB s sep + 1) (Lib.countB s sep + 1)) ∧ w' = w.alloc (.cells ((Lib.splitB sep 0 (Lib.countB s sep) s).map Value.string).toArray 9) := Any.strings_Split Tryz.lays146 (by kernel_rfl) s sep m w hs hm h1
end Go.Proofs
namespace Go.Proofs.YtfocdefchbnkpaaGreatDoor
open Go.RowKit
structure P.Tk where
 k:Int
 at_:Nat
 raw:List UInt8
def yD (l:List UInt8):Nat×Int:=if 5<R.span R.digitI l then (0,5) else (R.span R.digitI l,2)
theorem jW (c:UInt8)(r:List UInt8)(x:UInt8):Lib.index (c :: r) [x]=if c=x then 0 else if Lib.index r [x] = -1 then -1 else Lib.index r [x]+1:=by
 rw[Lib.index]
 by_cases h:c=x
 ·subst h;rw[if_pos (by simp[List.isPrefixOf]),if_pos rfl]
 ·rw[if_neg (by simp[List.isPrefixOf];exact fun e=>h e.symm),if_neg h]
  by_cases h2:Lib.index r [x] = -1
  ·rw[if_pos (by rw[h2];rfl),if_pos h2]
  ·rw[if_neg (by rw[beq_iff_eq];exact h2),if_neg h2]
theorem zd7 (l:List UInt8)(x:UInt8):Lib.indexByte l x=Lib.index l [x]:=by
 induction l with
 | nil=>rfl
 | cons c r ih=>
  rw[jW,Lib.indexByte,ih]
  by_cases h:c=x
  ·rw[if_pos (by rw[h];simp),if_pos h]
  ·rw[if_neg (by simpa using h),if_neg h]
   by_cases h2:Lib.index r [x] = -1
   ·rw[if_pos (by rw[h2];rfl),if_pos h2]
   ·rw[if_neg (by simpa using h2),if_neg h2]
def jh (t:List UInt8):Bool:=!(Lib.cut t [34]).2.2 || (decide (24<(Lib.cut t [34]).1.length) || Lib.contains (Lib.cut t [34]).1 [10])
def yO (l:List UInt8):Nat×Int:=if jh (l.drop 1) then (0,5) else ((Lib.cut (l.drop 1) [34]).1.length+2,3)
def qU (l:List UInt8):Nat×Int:=
 match l with
 | []=>(0,0)
 | c :: _=>
  if R.smallI c.toNat then (R.span R.smallI l,1)
  else if R.digitI c.toNat then yD l
  else if c.toNat=34 then yO l
  else if R.signI c.toNat then (1,4) else (0,5)
def qI (l:List UInt8)(p:Nat):Nat:=p+R.span xn (l.drop p)
def zp (l:List UInt8)(p:Nat):P.Tk:=
 ⟨(qU (l.drop (qI l p))).2,qI l p,(l.drop (qI l p)).take (qU (l.drop (qI l p))).1⟩
theorem zn2 (t:List UInt8):(Lib.cut t [34]).1.length<=t.length:=by
 unfold Lib.cut;split
 ·simp only[List.length_take];omega
 ·exact zw _
theorem zjT (t:List UInt8)(h:(Lib.cut t [34]).2.2=true):(Lib.cut t [34]).1.length+1<=t.length:=by
 unfold Lib.cut at h ⊢
 split
 ·rename_i h0
  have:=Lib.index_room t [34] h0
  simp only[List.length_take,zoF,zmU] at this ⊢
  omega
 ·rename_i h0;rw[if_neg h0] at h;simp at h
theorem kN (l:List UInt8):(qU l).1<=l.length:=by
 unfold qU
 match l with
 | []=>simp
 | c :: r=>
  simp only
  have h1:=R.span_le R.smallI (c :: r)
  have h2:=R.span_le R.digitI (c :: r)
  split
  ·exact h1
  ·split
   ·unfold yD;split
    ·simp
    ·exact h2
   ·split
    ·unfold yO;split
     ·simp
     ·rename_i hb
      have:(Lib.cut r [34]).2.2=true:=by
       unfold jh at hb;simp at hb;exact hb.1
      have:=zjT r this
      simp only[List.drop_succ_cons,List.drop_zero,zoF];omega
    ·split <;> simp
theorem fr (s:ByteArray)(w:World)(hs:s.size<=maxLen) :
  Calls Tryz.prog 262 #[.string s] w fun e w'=>e = .returned (.tuple #[.int .i64 (yD s.data.toList).1,.int .i64 (yD s.data.toList).2])/\w'=w:=by
 have HM:Y (yD s.data.toList=if 5<R.span R.digitI s.data.toList then (0,5) else (R.span R.digitI s.data.toList,2)):=rfl
 have HR:=fun w=>ze4 s w hs
 have ab:Y _:=HR
 clear HR
 generalize R.span R.digitI s.data.toList=n at*
 by_cases h5:5<n
 ·rw[if_pos h5] at HM
  go_enter Tryz.func262,Tryz.ntmps262
  go_wp2_with fail
  refine(ab.o _).mono ?_
  rintro e wX ⟨rfl,aa⟩
  rw[aa]
  clear aa wX
  go_wp2
  go_ret2
  exact⟨by rw[HM.o];rfl,rfl⟩
 ·rw[if_neg h5] at HM
  go_enter Tryz.func262,Tryz.ntmps262
  go_wp2_with fail
  refine(ab.o _).mono ?_
  rintro e wX ⟨rfl,aa⟩
  rw[aa]
  clear aa wX
  go_wp2
  go_ret2
  exact⟨by rw[HM.o];rfl,rfl⟩
theorem zs3 {a b c d:ByteArray}{e:Bool}(h:a=c)(h2:b=d):Ending.returned (.tuple #[.string a,.string b,.bool e]) = .returned (.tuple #[.string c,.string d,.bool e]):=by rw[h,h2]
theorem zfK (s:ByteArray)(w:World)(hs:s.size<=maxLen) :
  Calls Tryz.prog 308 #[.string s,.string ⟨#[34]⟩] w fun e w'=>e = .returned (.tuple #[.string (R.str (Lib.cut s.data.toList [34]).1),.string (R.str (Lib.cut s.data.toList [34]).2.1),.bool (Lib.cut s.data.toList [34]).2.2])/\w.grownBy w' none:=by
 have HC:Y (Lib.cut s.data.toList [34]=if 0<=Lib.index s.data.toList [34] then (s.data.toList.take (Lib.index s.data.toList [34]).toNat,s.data.toList.drop ((Lib.index s.data.toList [34]).toNat+1),true) else (s.data.toList,[],false)):=rfl
 have ab:0<=Lib.index s.data.toList [34]->Lib.index s.data.toList [34]+1<=s.size:=fun h=>by
  have:=Lib.index_room s.data.toList [34] h
  rw[R.size_eq] at this;simpa using this
 have HI:Y (∀w,Calls Tryz.prog 364 #[.string s,.string ⟨#[34]⟩] w fun e w'=>e = .returned (.int .i64 (Lib.index s.data.toList [34]))/\w'=w):=fun w=>by
  rw[<-zd7];exact Tryz.stringslite_Index_one s 34 w
 unfold maxLen at hs
 generalize Lib.index s.data.toList [34]=k at*
 by_cases h0:0<=k
 ·rw[if_pos h0] at HC
  obtain⟨n,rfl⟩:=Int.eq_ofNat_of_zero_le h0
  have hr:=ab h0
  clear ab
  go_enter Tryz.func308,Tryz.ntmps308
  go_wp2_with fail
  refine(HI.o _).mono ?_
  rintro e wX ⟨rfl,aa⟩
  rw[aa]
  clear aa wX
  go_wp2
  go_region
  go_wp2
  go_ret3
  exact⟨by rw[HC.o];exact zs3 (by rw[fN,Nat.sub_zero,List.drop_zero];rfl) (by rw[fN,<-R.size_eq,tW (by rw[List.length_drop];omega)];rfl),zg _⟩
 ·rw[if_neg h0] at HC
  clear ab
  go_enter Tryz.func308,Tryz.ntmps308
  go_wp2_with fail
  refine(HI.o _).mono ?_
  rintro e wX ⟨rfl,aa⟩
  rw[aa]
  clear aa wX
  go_wp2
  go_ret3
  exact⟨by rw[HC.o,R.str_of];rfl,ze _ _⟩
theorem zsE (s:ByteArray)(w:World)(hs:s.size<=maxLen) :
  Calls Tryz.prog 238 #[.string s,.string ⟨#[34]⟩] w fun e w'=>e = .returned (.tuple #[.string (R.str (Lib.cut s.data.toList [34]).1),.string (R.str (Lib.cut s.data.toList [34]).2.1),.bool (Lib.cut s.data.toList [34]).2.2])/\w.grownBy w' none:=by
 have HC:Y _:=fun w=>zfK s w hs
 generalize Lib.cut s.data.toList [34]=c at*
 go_enter Tryz.func238,Tryz.ntmps238
 go_wp2_with fail
 refine(HC.o _).mono ?_
 rintro e wX ⟨rfl,hg⟩
 go_wp2
 go_ret3
 exact⟨rfl,hg⟩
theorem tC (s:ByteArray)(w:World)(hs:s.size<=1000000000000)(h1:1<=s.size) :
  Calls Tryz.prog 263 #[.string s] w fun e w'=>e = .returned (.tuple #[.int .i64 (yO s.data.toList).1,.int .i64 (yO s.data.toList).2])/\w.grownBy w' none:=by
 have hx:(s.extract 1 s.size).data.toList=s.data.toList.drop 1:=fs s 1
 have ah:(s.extract 1 s.size).size<=maxLen:=by rw[<-R.size_eq,hx,List.length_drop,R.size_eq];unfold maxLen;omega
 have HC:=fun w=>zsE (s.extract 1 s.size) w ah
 rw[hx] at HC
 have ae:Y _:=HC
 have HM:Y (yO s.data.toList=if jh (s.data.toList.drop 1) then (0,5) else ((Lib.cut (s.data.toList.drop 1) [34]).1.length+2,3)):=rfl
 have HB:Y (jh (s.data.toList.drop 1)=(!(Lib.cut (s.data.toList.drop 1) [34]).2.2 || (decide (24<(Lib.cut (s.data.toList.drop 1) [34]).1.length) || Lib.contains (Lib.cut (s.data.toList.drop 1) [34]).1 [10]))):=rfl
 have ag:=zn2 (s.data.toList.drop 1)
 rw[List.length_drop,R.size_eq] at ag
 clear HC hx ah
 generalize Lib.cut (s.data.toList.drop 1) [34]=c at*
 obtain⟨aa,rest,ai⟩:=c
 simp only at HB HM ag
 have aj:(R.str aa).size=aa.length:=R.str_size aa
 have ad:Y (∀w,Calls Tryz.prog 322 #[.string (R.str aa),.string ⟨#[10]⟩] w fun e w'=>e = .returned (.bool (Lib.contains aa [10]))/\w'=w):=fun w=>by
  have:=Tryz.strings_Contains_one (R.str aa) 10 w
  rw[R.str_toList,zd7] at this;exact this
 cases ai
 ·rw[HB.o] at HM
  simp only[Bool.not_false,Bool.true_or,if_true] at HM
  go_enter Tryz.func263,Tryz.ntmps263
  go_wp2_with fail
  refine(ae.o _).mono ?_
  rintro e w1 ⟨rfl,hg⟩
  go_wp2
  go_ret2
  exact⟨by rw[HM.o];rfl,hg⟩
 ·by_cases af:24<aa.length
  ·rw[HB.o,decide_eq_true af] at HM
   simp only[Bool.not_true,Bool.true_or,Bool.or_true,if_true] at HM
   go_enter Tryz.func263,Tryz.ntmps263
   go_wp2_with fail
   refine(ae.o _).mono ?_
   rintro e w1 ⟨rfl,hg⟩
   go_wp2
   go_ret2
   exact⟨by rw[HM.o];rfl,hg⟩
  ·rw[HB.o,decide_eq_false af] at HM
   simp only[Bool.not_true,Bool.false_or] at HM
   cases hco:Lib.contains aa [10]
   ·rw[hco] at HM ad
    simp only[zb2,if_false] at HM
    go_enter Tryz.func263,Tryz.ntmps263
    go_wp2_with fail
    refine(ae.o _).mono ?_
    rintro e w1 ⟨rfl,hg⟩
    go_wp2_with fail
    refine(ad.o _).mono ?_
    rintro e wX ⟨rfl,ab⟩
    rw[ab]
    clear ab wX
    go_wp2
    go_ret2
    exact⟨by rw[HM.o];rfl,hg⟩
   ·rw[hco] at HM ad
    simp only[if_true] at HM
    go_enter Tryz.func263,Tryz.ntmps263
    go_wp2_with fail
    refine(ae.o _).mono ?_
    rintro e w1 ⟨rfl,hg⟩
    go_wp2_with fail
    refine(ad.o _).mono ?_
    rintro e wX ⟨rfl,ab⟩
    rw[ab]
    clear ab wX
    go_wp2
    go_ret2
    exact⟨by rw[HM.o];rfl,hg⟩
end Go.Proofs.YtfocdefchbnkpaaGreatDoor
