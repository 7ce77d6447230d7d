/- A token from a place on. -/
import Derived.Test.YtfocdefchbnkpaaGreatDoorAli
import Derived.Test.YtfocdefchbnkpaaGreatDoorShelf
import Derived.Deep.AppendLies
set_option maxRecDepth 100000
set_option maxHeartbeats 20000000
namespace Go.Proofs.YtfocdefchbnkpaaGreatDoor
open Go.RowKit
theorem zdG (c:UInt8):decide (0<=Lib.indexByte [123,125,59,61,44] c)=R.signI c.toNat:=by
 have:∀n:Fin 256,decide (0<=Lib.indexByte [123,125,59,61,44] (UInt8.ofNat n.val))=R.signI (UInt8.ofNat n.val).toNat:=by decide +kernel
 have h:=this ⟨c.toNat,UInt8.toNat_lt c⟩
 simp only[UInt8.ofNat_toNat] at h
 exact h
theorem zpX (c:UInt8):((c.toNat:Int).toNat).toUInt8=c:=by simp
theorem zfN (s:ByteArray)(w:World)(hs:s.size<=1000000000000) :
  Calls Tryz.prog 204 #[.string s] w fun e w'=>e = .returned (.tuple #[.int .i64 (zr s.data.toList).1,.int .i64 (zr s.data.toList).2])/\w.grownBy w' none:=by
 have ae:s.size<=maxLen:=by unfold maxLen;omega
 by_cases h0:s.size=0
 ·have HM:Y (zr s.data.toList=(0,0)):=by
   have:s.data.toList=[]:=List.length_eq_zero_iff.1 (by rw[R.size_eq];exact h0)
   rw[this];rfl
  have ak:s=⟨#[]⟩:=by
   apply zjA;exact List.length_eq_zero_iff.1 (by rw[R.size_eq];exact h0)
  subst ak
  clear h0 hs ae
  go_enter Tryz.func204,Tryz.ntmps204
  go_wp2
  go_ret2
  exact⟨by rw[HM.o];rfl,zM _ _⟩
 ·have h1:0<s.size:=by omega
  have ad:s.data.toList=s[0] :: s.data.toList.drop 1:=by
   have:=R.drop_cons s 0 h1;rw[List.drop_zero] at this;exact this
  have HM:Y (zr s.data.toList=if R.smallI s[0].toNat then (R.span R.smallI s.data.toList,(1:Int)) else if R.digitI s[0].toNat then xH s.data.toList else if s[0].toNat=34 then xM s.data.toList else if R.signI s[0].toNat then (1,4) else (0,5)):=by
   show zr _=_
   conv=>lhs;rw[ad]
   rw[zr,<-ad]
  have al:(s.toList == [])=false:=by
   rw[ByteArray.toList_eq,ad];rfl
  have ah:Y _:=fun w=>tV s w ae
  have ag:Y _:=fun w=>wO s w ae
  have ai:Y _:=fun w=>wQ s w hs h1
  have aa:=zdG s[0]
  have af:Y (∀w,Calls Tryz.prog 264 #[.string ⟨#[123,125,59,61,44]⟩,.int .u8 s[0].toNat] w fun e w'=>e = .returned (.int .i64 (Lib.indexByte [123,125,59,61,44] s[0]))/\w'=w):=fun w=>by
   have:=Tryz.strings_IndexByte ⟨#[123,125,59,61,44]⟩ s[0].toNat w
   rw[zpX] at this;exact this
  clear ad
  generalize zr s.data.toList=m at*
  generalize xH s.data.toList=mn at*
  generalize xM s.data.toList=ms at*
  generalize R.span R.smallI s.data.toList=sp at*
  generalize Lib.indexByte [123,125,59,61,44] s[0]=ix at*
  cases ha:R.smallI s[0].toNat
  ·rw[ha] at HM
   simp only[xO,if_false] at HM
   cases hd:R.digitI s[0].toNat
   ·rw[hd] at HM
    simp only[xO,if_false] at HM
    by_cases ab:s[0].toNat=34
    ·rw[if_pos ab] at HM
     have aj:((s[0].toNat:Int) == 34)=true:=by rw[ab];rfl
     clear ab
     go_enter Tryz.func204,Tryz.ntmps204
     go_wp2_with (first
      | (go_at_call 260;refine(xw _ _).mono ?_;rintro e w' ⟨rfl,rfl⟩)
      | (go_at_call 261;refine(yF _ _).mono ?_;rintro e w' ⟨rfl,rfl⟩)
      | (go_at_call 263;refine(ai.o _).mono ?_;rintro e w1 ⟨rfl,hg⟩))
     go_ret2
     exact⟨by rw[HM.o];rfl,hg⟩
    ·rw[if_neg ab] at HM
     have aj:((s[0].toNat:Int) == 34)=false:=by rw[beq_eq_false_iff_ne];omega
     clear ab
     cases hsi:R.signI s[0].toNat
     ·rw[hsi] at HM aa
      simp only[xO,if_false] at HM
      have am:¬0<=ix:=by simpa using aa
      clear aa
      go_enter Tryz.func204,Tryz.ntmps204
      go_wp2_with (first
       | (go_at_call 260;refine(xw _ _).mono ?_;rintro e w' ⟨rfl,rfl⟩)
       | (go_at_call 261;refine(yF _ _).mono ?_;rintro e w' ⟨rfl,rfl⟩)
       | (go_at_call 264;refine(af.o _).mono ?_;rintro e w' ⟨rfl,rfl⟩))
      go_ret2
      exact⟨by rw[HM.o];rfl,zM _ _⟩
     ·rw[hsi] at HM aa
      simp only[if_true] at HM
      have an:0<=ix:=by simpa using aa
      clear aa
      go_enter Tryz.func204,Tryz.ntmps204
      go_wp2_with (first
       | (go_at_call 260;refine(xw _ _).mono ?_;rintro e w' ⟨rfl,rfl⟩)
       | (go_at_call 261;refine(yF _ _).mono ?_;rintro e w' ⟨rfl,rfl⟩)
       | (go_at_call 264;refine(af.o _).mono ?_;rintro e w' ⟨rfl,rfl⟩))
      go_ret2
      exact⟨by rw[HM.o];rfl,zM _ _⟩
   ·rw[hd] at HM
    simp only[if_true] at HM
    go_enter Tryz.func204,Tryz.ntmps204
    go_wp2_with (first
     | (go_at_call 260;refine(xw _ _).mono ?_;rintro e w' ⟨rfl,rfl⟩)
     | (go_at_call 261;refine(yF _ _).mono ?_;rintro e w' ⟨rfl,rfl⟩)
     | (go_at_call 262;refine(ag.o _).mono ?_;rintro e w' ⟨rfl,rfl⟩))
    go_ret2
    exact⟨by rw[HM.o];rfl,zM _ _⟩
  ·rw[ha] at HM
   simp only[if_true] at HM
   go_enter Tryz.func204,Tryz.ntmps204
   go_wp2_with (first
    | (go_at_call 260;refine(xw _ _).mono ?_;rintro e w' ⟨rfl,rfl⟩)
    | (go_at_call 202;refine(ah.o _).mono ?_;rintro e w' ⟨rfl,rfl⟩))
   go_ret2
   exact⟨by rw[HM.o];rfl,zM _ _⟩
theorem fC (l:List UInt8)(p:Nat)(hp:p<=l.length):zj l p<=l.length:=by
 have h:=R.span_le qt (l.drop p)
 rw[List.length_drop] at h
 unfold zj;omega
theorem fE (l:List UInt8)(p:Nat)(hp:p<=l.length):(zU l p).at_+(zU l p).raw.length<=l.length:=by
 have h1:=fC l p hp
 have h2:=jU (l.drop (zj l p))
 rw[List.length_drop] at h2
 unfold zU
 simp only[List.length_take,List.length_drop]
 omega
theorem kQ (s:ByteArray)(p:Nat)(w:World)(hs:s.size<=1000000000000)(hp:p<=s.size) :
  Calls Tryz.prog 146 #[.string s,.int .i64 p] w fun e w'=>e = .returned (.agg #[.int .i64 (zU s.data.toList p).k,.int .i64 (zU s.data.toList p).at_,.string (R.str (zU s.data.toList p).raw)])/\w.grownBy w' none:=by
 have hx:(s.extract p s.size).data.toList=s.data.toList.drop p:=fQ s p
 have af:(s.extract p s.size).size<=maxLen:=by rw[<-R.size_eq,hx,List.length_drop,R.size_eq];unfold maxLen;omega
 have HR:=fun w=>tU (s.extract p s.size) w af
 rw[hx] at HR
 have ai:Y _:=HR
 have ad:=fC s.data.toList p (by rw[R.size_eq];exact hp)
 rw[R.size_eq] at ad
 have HT:Y (zU s.data.toList p=⟨(zr (s.data.toList.drop (zj s.data.toList p))).2,zj s.data.toList p,(s.data.toList.drop (zj s.data.toList p)).take (zr (s.data.toList.drop (zj s.data.toList p))).1⟩):=rfl
 have ab:zj s.data.toList p=p+R.span qt (s.data.toList.drop p):=rfl
 clear HR hx af
 generalize R.span qt (s.data.toList.drop p)=n at*
 rw[ab] at HT ad
 have hy:(s.extract (p+n) s.size).data.toList=s.data.toList.drop (p+n):=fQ s (p+n)
 have ag:(s.extract (p+n) s.size).size<=1000000000000:=by rw[<-R.size_eq,hy,List.length_drop,R.size_eq];omega
 have HM:=fun w=>zfN (s.extract (p+n) s.size) w ag
 rw[hy] at HM
 have ah:Y _:=HM
 have aa:=jU (s.data.toList.drop (p+n))
 rw[List.length_drop,R.size_eq] at aa
 clear HM hy ag ab
 generalize zr (s.data.toList.drop (p+n))=m at*
 obtain⟨sz,kd⟩:=m
 simp only at HT aa
 go_enter Tryz.func146,Tryz.ntmps146
 go_wp2_with fail
 refine(ai.o _).mono ?_
 rintro e wX ⟨rfl,ae⟩
 rw[ae]
 clear ae wX
 go_wp2_with fail
 refine(ah.o _).mono ?_
 rintro e w1 ⟨rfl,hg⟩
 have n0:=xc hg (by simp)
 have b0:=zE n0
 have ak:w1.cell? ⟨w.heap.size,0,none⟩=some (.int .i64 0):=z8 n0
 have al:w1.cell? ⟨w.heap.size,1,none⟩=some (.int .i64 0):=z8 n0
 have am:w1.cell? ⟨w.heap.size,2,none⟩=some (.string ⟨#[]⟩):=z8 n0
 have f0:=zrB 0 n0
 have f1:=zrB 1 n0
 have f2:=zrB 2 n0
 have HG:Y (w.grownBy w1 none):=zA (zJ _ _ _) hg
 clear n0 hg
 go_wp2
 have aj:=zA (zA (zD w1 w.heap.size 0 (.int .i64 kd)) (zD _ w.heap.size 1 (.int .i64 (p+n)))) (zD _ w.heap.size 2 (.string (s.extract (p+n) (p+n+sz))))
 refine bodyPost_ret (v:=.agg #[.int .i64 kd,.int .i64 (p+n),.string (s.extract (p+n) (p+n+sz))]) (by simp[results,Tryz.results146,go_sem,ak,al,am]) rfl ⟨?_,zY HG.o aj (zZ _)⟩
 rw[HT.o,jr,show p+n+sz - (p+n)=sz by omega]
 simp
structure P.St where
 tok:P.Tk
 broken:Bool
 err:Int
 fat:Int
structure PInv (w:World) (rb:Nat) (s:ByteArray) (st:P.St):Prop where
 rd:w.heap[rb]?=some (.cells #[.string s,.int .i64 st.tok.k,.int .i64 st.tok.at_,.string (R.str st.tok.raw),.bool st.broken,.int .i64 st.err,.int .i64 st.fat] 204 (0,0))
 len:s.size<=1000000000000
 tok:∃p,p<=s.size/\st.tok=zU s.data.toList p
theorem PInv.bd {w:World}{rb:Nat}{s:ByteArray}{st:P.St}(h:PInv w rb s st):st.tok.at_+st.tok.raw.length<=s.size:=by
 obtain⟨p,hp,e⟩:=h.tok
 rw[e,<-R.size_eq]
 exact fE _ _ (by rw[R.size_eq];exact hp)
theorem PInv.keep {w w':World}{rb:Nat}{s:ByteArray}{st:P.St}(h:PInv w rb s st)(hg:w.grownBy w' none):PInv w' rb s st:=
 ⟨by rw[hg.block rb (zE h.rd) (by simp)];exact h.rd,h.len,h.tok⟩
theorem PInv.other {w w':World}{rb b:Nat}{s:ByteArray}{st:P.St}(h:PInv w rb s st)(hg:w.grownBy w' (some b))(h1:b≠rb):PInv w' rb s st:=
 ⟨by rw[hg.block rb (zE h.rd) (by simpa using fun e=>h1 e.symm)];exact h.rd,h.len,h.tok⟩
theorem PInv.away {w w':World}{rb:Nat}{s:ByteArray}{st:P.St}{row:Option Nat}(h:PInv w rb s st)(hg:w.grownBy w' row)(hr:∀k,row=some k->k≠rb):PInv w' rb s st:=by
 cases row with
 | none=>exact h.keep hg
 | some k=>exact h.other hg (hr k rfl)
def vG (l:List UInt8)(st:P.St)(p:Nat):P.St:={ st with tok:=zU l p }
theorem znI {w:World}{rb:Nat}{s:ByteArray}{st:P.St}(h:PInv w rb s st)(p:Nat)(hp:p<=s.size) :
  Calls Tryz.prog 100 #[.pointer (some ⟨rb,0,none⟩),.int .i64 p] w fun e w'=>e = .returned (.tuple #[])/\PInv w' rb s (vG s.data.toList st p)/\w.grownBy w' (some rb):=by
 have c0:w.cell? ⟨rb,0,none⟩=some (.string s):=z8 h.rd
 have aa:=h.len
 have H0:Y _:=h
 have HT:Y _:=fun w=>kQ s p w aa hp
 have HE:Y (vG s.data.toList st p={ st with tok:=zU s.data.toList p }):=rfl
 have ab:Y (∃q,q<=s.size/\zU s.data.toList p=zU s.data.toList q):=⟨p,hp,rfl⟩
 generalize zU s.data.toList p=t at*
 clear h
 go_enter Tryz.func100,Tryz.ntmps100
 go_wp2_with fail
 refine(HT.o _).mono ?_
 rintro e w1 ⟨rfl,hg⟩
 have I1:=H0.o.keep hg
 have c1:w1.cell? ⟨rb,1,none⟩=some (.int .i64 st.tok.k):=z8 I1.rd
 have c2:w1.cell? ⟨rb,2,none⟩=some (.int .i64 st.tok.at_):=z8 I1.rd
 have c3:w1.cell? ⟨rb,3,none⟩=some (.string (R.str st.tok.raw)):=z8 I1.rd
 have f1:w1.frozen? ⟨rb,1,none⟩=false:=zC I1.rd
 have f2:w1.frozen? ⟨rb,2,none⟩=false:=zC I1.rd
 have f3:w1.frozen? ⟨rb,3,none⟩=false:=zC I1.rd
 have J1:Y _:=I1
 have HG:Y _:=hg
 clear I1 hg c0
 go_wp2
 go_end0
 have hg:w1.grownBy (((w1.setCell ⟨rb,1,none⟩ (.int .i64 t.k)).setCell ⟨rb,2,none⟩ (.int .i64 t.at_)).setCell ⟨rb,3,none⟩ (.string (R.str t.raw))) (some rb):=
  zA (zA (zD _ _ _ _) (zD _ _ _ _)) (zD _ _ _ _)
 refine⟨rfl,?_,zA (zk HG.o _) hg⟩
 rw[HE.o]
 exact⟨zF (zF (zF J1.o.rd _) _) _,aa,ab.o⟩
def zu (st:P.St)(r:List UInt8):Bool:=!st.broken && decide (st.tok.raw=r)
theorem yn {w:World}{rb:Nat}{s:ByteArray}{st:P.St}(h:PInv w rb s st)(r:ByteArray) :
  Calls Tryz.prog 147 #[.pointer (some ⟨rb,0,none⟩),.string r] w fun e w'=>e = .returned (.bool (zu st r.data.toList))/\w.grownBy w' none:=by
 have c3:w.cell? ⟨rb,3,none⟩=some (.string (R.str st.tok.raw)):=z8 h.rd
 have c4:w.cell? ⟨rb,4,none⟩=some (.bool st.broken):=z8 h.rd
 have HS:Y (zu st r.data.toList=(!st.broken && decide (st.tok.raw=r.data.toList))):=rfl
 have hq:((R.str st.tok.raw).toList == r.toList)=decide (st.tok.raw=r.data.toList):=by rw[ByteArray.toList_eq,ByteArray.toList_eq,R.str_toList,Bool.eq_iff_iff];simp
 generalize decide (st.tok.raw=r.data.toList)=b3 at*
 cases hb:st.broken
 all_goals
  rw[hb] at HS c4
  go_enter Tryz.func147,Tryz.ntmps147
  go_wp2
  go_ret
  exact⟨za (by rw[HS.o];try rfl),zM _ _⟩
def zy (l:List UInt8)(st:P.St)(fits:Bool):P.St:=
 if fits=true/\st.broken=false then vG l st (st.tok.at_+st.tok.raw.length) else { st with broken:=true }
theorem wV {w:World}{rb:Nat}{s:ByteArray}{st:P.St}(h:PInv w rb s st)(aa:Bool) :
  Calls Tryz.prog 149 #[.pointer (some ⟨rb,0,none⟩),.bool aa] w fun e w'=>e = .returned (.bool (!(zy s.data.toList st aa).broken))/\PInv w' rb s (zy s.data.toList st aa)/\w.grownBy w' (some rb):=by
 have c2:w.cell? ⟨rb,2,none⟩=some (.int .i64 st.tok.at_):=z8 h.rd
 have c3:w.cell? ⟨rb,3,none⟩=some (.string (R.str st.tok.raw)):=z8 h.rd
 have c4:w.cell? ⟨rb,4,none⟩=some (.bool st.broken):=z8 h.rd
 have f4:w.frozen? ⟨rb,4,none⟩=false:=zC h.rd
 have ab:=h.bd
 have ae:=h.len
 have af:(R.str st.tok.raw).size=st.tok.raw.length:=R.str_size _
 have HP:Y (zy s.data.toList st aa=if aa=true/\st.broken=false then vG s.data.toList st (st.tok.at_+st.tok.raw.length) else { st with broken:=true }):=rfl
 have H0:Y _:=h
 clear h
 generalize zy s.data.toList st aa=st' at*
 cases aa
 ·rw[if_neg (by simp)] at HP
  go_enter Tryz.func149,Tryz.ntmps149
  go_wp2
  go_ret
  rw[HP.o]
  exact⟨rfl,⟨zF H0.o.rd _,ae,H0.o.tok⟩,zD _ _ _ _⟩
 ·cases hb:st.broken
  ·rw[if_pos ⟨rfl,hb⟩] at HP
   rw[hb] at c4
   have HL:Y (∀w,PInv w rb s st->Calls Tryz.prog 100 #[.pointer (some ⟨rb,0,none⟩),.int .i64 (IntKind.i64.wrap ((st.tok.at_:Int)+(st.tok.raw.length:Int)))] w fun e w'=>e = .returned (.tuple #[])/\PInv w' rb s st'/\w.grownBy w' (some rb)):=fun w h=>by
    have:=znI h (st.tok.at_+st.tok.raw.length) ab
    rw[<-HP.o,Int.natCast_add] at this
    rw[IntWalk.i64_in _ ⟨by omega,by omega⟩];exact this
   have HB:Y (st'.broken=false):=by rw[HP.o];exact hb
   clear hb
   go_enter Tryz.func149,Tryz.ntmps149
   go_wp2
   go_region_with (go_at_call 100;refine(HL.o _ (H0.o.keep (zQ w))).mono ?_;rintro e w1 ⟨rfl,I1,ad⟩;have d4:w1.cell? ⟨rb,4,none⟩=some (.bool st'.broken):=z8 I1.rd;rw[HB.o] at d4)
   all_goals
    go_wp2
    go_ret
    rw[HB.o]
    exact⟨rfl,I1,zA (zk (zQ w) _) ad⟩
  ·rw[if_neg (by rw[hb];simp)] at HP
   rw[hb] at c4
   go_enter Tryz.func149,Tryz.ntmps149
   go_wp2
   go_ret
   have e:({ st with broken:=true }:P.St)=st:=by cases st;simp at hb ⊢;exact hb
   rw[HP.o,e,hb]
   exact⟨rfl,H0.o,zM _ _⟩
def zH (l:List UInt8)(st:P.St)(r:List UInt8):P.St:=zy l st (decide (st.tok.raw=r))
def yY (l:List UInt8)(st:P.St):P.St:=zy l st (st.tok.k == 0)
theorem xK {w:World}{rb:Nat}{s:ByteArray}{st:P.St}(h:PInv w rb s st)(r:ByteArray) :
  Calls Tryz.prog 206 #[.pointer (some ⟨rb,0,none⟩),.string r] w fun e w'=>e = .returned (.tuple #[])/\PInv w' rb s (zH s.data.toList st r.data.toList)/\w.grownBy w' (some rb):=by
 have c3:w.cell? ⟨rb,3,none⟩=some (.string (R.str st.tok.raw)):=z8 h.rd
 have hq:((R.str st.tok.raw).toList == r.toList)=decide (st.tok.raw=r.data.toList):=by rw[ByteArray.toList_eq,ByteArray.toList_eq,R.str_toList,Bool.eq_iff_iff];simp
 have HT:Y (zH s.data.toList st r.data.toList=zy s.data.toList st (decide (st.tok.raw=r.data.toList))):=rfl
 have H0:Y _:=h
 clear h
 generalize decide (st.tok.raw=r.data.toList)=b3 at*
 go_enter Tryz.func206,Tryz.ntmps206
 go_wp2_with fail
 refine(wV H0.o b3).mono ?_
 rintro e w1 ⟨rfl,I1,aa⟩
 go_wp2
 go_end0
 exact⟨rfl,by rw[HT.o];exact I1,aa⟩
theorem zfU {w:World}{rb:Nat}{s:ByteArray}{st:P.St}(h:PInv w rb s st) :
  Calls Tryz.prog 102 #[.pointer (some ⟨rb,0,none⟩)] w fun e w'=>e = .returned (.tuple #[])/\PInv w' rb s (yY s.data.toList st)/\w.grownBy w' (some rb):=by
 have c1:w.cell? ⟨rb,1,none⟩=some (.int .i64 st.tok.k):=z8 h.rd
 have HT:Y (yY s.data.toList st=zy s.data.toList st (st.tok.k == 0)):=rfl
 have H0:Y _:=h
 clear h
 go_enter Tryz.func102,Tryz.ntmps102
 go_wp2_with fail
 refine(wV H0.o (st.tok.k == 0)).mono ?_
 rintro e w1 ⟨rfl,I1,aa⟩
 go_wp2
 go_end0
 exact⟨rfl,by rw[HT.o];exact I1,aa⟩
theorem ug (l:List UInt8)(h:(zr l).2=3):2<=(zr l).1:=by
 unfold zr at h ⊢
 match l with
 | []=>simp at h
 | c :: r=>
  simp only at h ⊢
  split
  ·rename_i h1;rw[if_pos h1] at h;simp at h
  ·rename_i h1
   rw[if_neg h1] at h
   split
   ·rename_i h2
    rw[if_pos h2] at h
    unfold xH at h;split at h <;> simp at h
   ·rename_i h2
    rw[if_neg h2] at h
    split
    ·rename_i h3
     rw[if_pos h3] at h
     unfold xM at h ⊢
     split
     ·rename_i h4;rw[if_pos h4] at h;simp at h
     ·simp
    ·rename_i h3
     rw[if_neg h3] at h
     split at h <;> simp at h
theorem zdI (l:List UInt8)(p:Nat)(h:(zU l p).k=3):2<=(zU l p).raw.length:=by
 unfold zU at h ⊢
 simp only at h ⊢
 have h1:=ug _ h
 have h2:=jU (l.drop (zj l p))
 rw[List.length_take];omega
theorem PInv.three {w:World}{rb:Nat}{s:ByteArray}{st:P.St}(h:PInv w rb s st)(hk:st.tok.k=3):2<=st.tok.raw.length:=by
 obtain⟨p,hp,e⟩:=h.tok
 rw[e] at hk ⊢
 exact zdI _ _ hk
def zg (l:List UInt8)(st:P.St):List UInt8×P.St:=
 (if (zy l st (st.tok.k == 3)).broken then [] else (st.tok.raw.drop 1).take (st.tok.raw.length - 2),zy l st (st.tok.k == 3))
theorem zqL {a b:ByteArray}{c d:Int}(h:a=b)(h2:c=d):Ending.returned (.tuple #[.string a,.int .i64 c]) = .returned (.tuple #[.string b,.int .i64 d]):=by rw[h,h2]
theorem yd {w:World}{rb:Nat}{s:ByteArray}{st:P.St}(h:PInv w rb s st) :
  Calls Tryz.prog 266 #[.pointer (some ⟨rb,0,none⟩)] w fun e w'=>e = .returned (.tuple #[.string (R.str (zg s.data.toList st).1),.int .i64 st.tok.at_])/\PInv w' rb s (zg s.data.toList st).2/\w.grownBy w' (some rb):=by
 have c1:w.cell? ⟨rb,1,none⟩=some (.int .i64 st.tok.k):=z8 h.rd
 have c2:w.cell? ⟨rb,2,none⟩=some (.int .i64 st.tok.at_):=z8 h.rd
 have c3:w.cell? ⟨rb,3,none⟩=some (.string (R.str st.tok.raw)):=z8 h.rd
 have ab:=zE h.rd
 have ad:=h.bd
 have ae:=h.len
 have af:(R.str st.tok.raw).size=st.tok.raw.length:=R.str_size _
 have HS:Y (zg s.data.toList st=(if (zy s.data.toList st (st.tok.k == 3)).broken then [] else (st.tok.raw.drop 1).take (st.tok.raw.length - 2),zy s.data.toList st (st.tok.k == 3))):=rfl
 have H3:Y ((zy s.data.toList st (st.tok.k == 3)).broken=false->2<=st.tok.raw.length):=fun hb=>by
  apply h.three
  apply Classical.byContradiction;intro hk
  unfold zy at hb
  rw[if_neg (by intro c;exact hk (by simpa using c.1))] at hb
  simp at hb
 have H0:Y _:=h
 clear h
 go_enter Tryz.func266,Tryz.ntmps266
 go_wp2_with fail
 refine(wV (H0.o.keep (zJ _ _ _)) (st.tok.k == 3)).mono ?_
 rintro e w1 ⟨rfl,I1,aa⟩
 have n1:=xc aa (by simp;omega)
 have q1:w1.cell? ⟨w.heap.size,1,none⟩=some (.int .i64 st.tok.at_):=z8 n1
 have q2:w1.cell? ⟨w.heap.size,2,none⟩=some (.string (R.str st.tok.raw)):=z8 n1
 have HG:Y (w.grownBy w1 (some rb)):=zA (zJ _ _ _) aa
 have J1:Y _:=I1
 have H4:=H3.o
 clear n1 aa I1 H3
 generalize zy s.data.toList st (st.tok.k == 3)=st' at*
 cases hb:st'.broken
 ·rw[hb] at HS
  simp only[xO,if_false] at HS
  have h2:=H4 hb
  clear H4 hb
  go_wp2
  go_region
  go_wp2
  go_ret2
  refine⟨?_,by rw[HS.o];exact J1.o.keep (zQ _),zA HG.o (zk (zQ _) _)⟩
  rw[HS.o]
  exact zqL (by rw[jr,R.str_toList,show st.tok.raw.length - 1 - 1=st.tok.raw.length - 2 by omega]) rfl
 ·rw[hb] at HS
  simp only[if_true] at HS
  clear H4 hb
  go_wp2
  go_region
  go_wp2
  go_ret2
  exact⟨by rw[HS.o];rfl,by rw[HS.o];exact J1.o.keep (zQ _),zA HG.o (zk (zQ _) _)⟩
theorem zjL:∀(l:List UInt8) (n:Nat),l.all (fun c=>R.digitI c.toNat)=true->(n:Int)*10 ^ l.length+10 ^ l.length<=1000000000000->∃m:Nat,Lib.decFrom n l=some m/\l.foldl R.numStep n=m/\(m:Int)<(n+1)*10 ^ l.length:=by
 intro l
 induction l with
 | nil=>intro n _ _;exact⟨n,rfl,rfl,by simp;omega⟩
 | cons c l ih=>
  intro n hd hb
  rw[List.all_cons,Bool.and_eq_true] at hd
  obtain⟨h1,h2⟩:=hd
  unfold R.digitI at h1
  simp only[Bool.and_eq_true,decide_eq_true_eq] at h1
  rw[zm,Int.pow_succ] at hb
  have hp:(1:Int)<=10 ^ l.length:=Int.pow_pos (by decide)
  have aa:Lib.digitVal c=some (c.toNat - 48):=by unfold Lib.digitVal;rw[if_pos (by omega)]
  have af:(n:Int)<=100000000000:=by
   have:(n:Int)*10<=n*(10 ^ l.length*10):=by
    apply Int.mul_le_mul_of_nonneg_left <;> omega
   omega
  have ae:R.numStep n c=((n*10+(c.toNat - 48):Nat):Int):=by
   unfold R.numStep
   have e1:wrap64 (10*(n:Int))=10*n:=IntWalk.wrap64_in _ ⟨by omega,by omega⟩
   rw[e1,show((c.toNat:Int) - 48) % 256=c.toNat - 48 by omega,IntWalk.wrap64_in _ ⟨by omega,by omega⟩]
   omega
  have ad:((n*10+(c.toNat - 48):Nat):Int)+1<=(n+1)*10:=by omega
  have ab:((n*10+(c.toNat - 48):Nat):Int)*10 ^ l.length+10 ^ l.length<=(n+1)*10*10 ^ l.length:=by
   have:(((n*10+(c.toNat - 48):Nat):Int)+1)*10 ^ l.length<=((n+1)*10)*10 ^ l.length:=Int.mul_le_mul_of_nonneg_right ad (by omega)
   rw[Int.add_mul,Int.one_mul] at this;exact this
  have ag:((n:Int)+1)*10*10 ^ l.length=n*(10 ^ l.length*10)+10 ^ l.length*10:=by
   rw[Int.mul_assoc,Int.mul_comm 10,Int.add_mul,Int.one_mul]
  obtain⟨m,q1,q2,q3⟩:=ih (n*10+(c.toNat - 48)) h2 (by omega)
  refine⟨m,?_,?_,?_⟩
  ·rw[Lib.decFrom,aa];exact q1
  ·rw[List.foldl_cons,ae];exact q2
  ·rw[zm,Int.pow_succ]
   have hq:(((n*10+(c.toNat - 48):Nat):Int)+1)*10 ^ l.length<=(n+1)*(10 ^ l.length*10):=by
    rw[Int.add_mul,Int.one_mul]
    have:((n:Int)+1)*(10 ^ l.length*10)=(n+1)*10*10 ^ l.length:=by rw[Int.mul_assoc,Int.mul_comm 10]
    rw[this];exact ab
   omega
theorem fB (l:List UInt8)(hl:l.length<=5)(h1:1<=l.length)(hd:l.all (fun c=>R.digitI c.toNat)=true):Lib.atoi l=some (R.num l)/\0<=R.num l/\R.num l<=99999:=by
 have hp:(10:Int) ^ l.length<=100000:=by
  have:∀n:Fin 6,(10:Int) ^ n.val<=100000:=by decide
  exact this ⟨l.length,by omega⟩
 obtain⟨m,q1,q2,q3⟩:=zjL l 0 hd (by simp;omega)
 have hn:R.num l=m:=q2
 refine⟨?_,by omega,by simp at q3;omega⟩
 match l,h1 with
 | c :: r,_=>
  have hc:R.digitI c.toNat=true:=by rw[List.all_cons,Bool.and_eq_true] at hd;exact hd.1
  unfold R.digitI at hc
  simp only[Bool.and_eq_true,decide_eq_true_eq] at hc
  have n1:(c == 45)=false:=by rw[beq_eq_false_iff_ne];intro e;subst e;exact absurd hc.1 (by decide)
  have n2:(c == 43)=false:=by rw[beq_eq_false_iff_ne];intro e;subst e;exact absurd hc.1 (by decide)
  unfold Lib.atoi
  simp only
  rw[n1,n2]
  simp only[xO,if_false]
  unfold Lib.decNat
  simp only[List.isEmpty_cons,xO,if_false]
  rw[q1,hn];rfl
theorem tL (l:List UInt8)(h:(zr l).2=2):(zr l).1=R.span R.digitI l/\1<=R.span R.digitI l/\R.span R.digitI l<=5:=by
 unfold zr at h ⊢
 match l with
 | []=>simp at h
 | c :: r=>
  simp only at h ⊢
  split
  ·rename_i h1;rw[if_pos h1] at h;simp at h
  ·rename_i h1
   rw[if_neg h1] at h
   split
   ·rename_i h2
    rw[if_pos h2] at h
    unfold xH at h ⊢
    split
    ·rename_i h3;rw[if_pos h3] at h;simp at h
    ·rename_i h3
     exact⟨rfl,by rw[R.span,if_pos h2];omega,by omega⟩
   ·rename_i h2
    rw[if_neg h2] at h
    split
    ·rename_i h3
     rw[if_pos h3] at h
     unfold xM at h;split at h <;> simp at h
    ·rename_i h3
     rw[if_neg h3] at h
     split at h <;> simp at h
theorem uh (p:Int->Bool)(l:List UInt8):(l.take (R.span p l)).all (fun c=>p c.toNat)=true:=by
 induction l with
 | nil=>rfl
 | cons c l ih=>
  rw[R.span]
  split
  ·rename_i h;rw[List.take_succ_cons,List.all_cons,h,ih];rfl
  ·simp
theorem PInv.two {w:World}{rb:Nat}{s:ByteArray}{st:P.St}(h:PInv w rb s st)(hk:st.tok.k=2):st.tok.raw.length<=5/\Lib.atoi st.tok.raw=some (R.num st.tok.raw)/\0<=R.num st.tok.raw/\R.num st.tok.raw<=99999:=by
 obtain⟨p,hp,e⟩:=h.tok
 rw[e] at hk ⊢
 unfold zU at hk ⊢
 simp only at hk ⊢
 obtain⟨h1,h2,h3⟩:=tL _ hk
 have h4:=jU (s.data.toList.drop (zj s.data.toList p))
 rw[h1] at h4 ⊢
 have hl:((s.data.toList.drop (zj s.data.toList p)).take (R.span R.digitI (s.data.toList.drop (zj s.data.toList p)))).length=R.span R.digitI (s.data.toList.drop (zj s.data.toList p)):=by rw[List.length_take];omega
 exact⟨by rw[hl];exact h3,fB _ (by rw[hl];exact h3) (by rw[hl];exact h2) (uh _ _)⟩
def qU (l:List UInt8)(st:P.St):Int×P.St:=
 (if (zy l st (st.tok.k == 2)).broken then 0 else R.num st.tok.raw,zy l st (st.tok.k == 2))
theorem xk (w:World)(e:TypeId)(s:ByteArray):w.grownBy (Lib.bytesWorld w e s) none:=
 ⟨rfl,rfl,rfl,by rw[Lib.bytesWorld_size];omega,fun k hk _=>Lib.bytesWorld_at_old w e s k hk⟩
theorem kB {w:World}{rb:Nat}{s:ByteArray}{st:P.St}(h:PInv w rb s st) :
  Calls Tryz.prog 327 #[.pointer (some ⟨rb,0,none⟩)] w fun e w'=>e = .returned (.tuple #[.int .i64 (qU s.data.toList st).1,.int .i64 st.tok.at_])/\PInv w' rb s (qU s.data.toList st).2/\w.grownBy w' (some rb)/\0<=(qU s.data.toList st).1/\(qU s.data.toList st).1<=99999:=by
 have c1:w.cell? ⟨rb,1,none⟩=some (.int .i64 st.tok.k):=z8 h.rd
 have c2:w.cell? ⟨rb,2,none⟩=some (.int .i64 st.tok.at_):=z8 h.rd
 have c3:w.cell? ⟨rb,3,none⟩=some (.string (R.str st.tok.raw)):=z8 h.rd
 have ah:=zE h.rd
 have aj:=h.len
 have ai:=h.bd
 have HS:Y (qU s.data.toList st=(if (zy s.data.toList st (st.tok.k == 2)).broken then 0 else R.num st.tok.raw,zy s.data.toList st (st.tok.k == 2))):=rfl
 have H3:Y ((zy s.data.toList st (st.tok.k == 2)).broken=false->st.tok.raw.length<=5/\Lib.atoi st.tok.raw=some (R.num st.tok.raw)/\0<=R.num st.tok.raw/\R.num st.tok.raw<=99999):=fun hb=>by
  apply h.two
  apply Classical.byContradiction;intro hk
  unfold zy at hb
  rw[if_neg (by intro c;exact hk (by simpa using c.1))] at hb
  simp at hb
 have H0:Y _:=h
 clear h
 go_enter Tryz.func327,Tryz.ntmps327
 go_wp2_with fail
 refine(wV (H0.o.keep (zJ _ _ _)) (st.tok.k == 2)).mono ?_
 rintro e w1 ⟨rfl,I1,ab⟩
 have n1:=xc ab (by simp;omega)
 have q1:w1.cell? ⟨w.heap.size,1,none⟩=some (.int .i64 st.tok.at_):=z8 n1
 have q2:w1.cell? ⟨w.heap.size,2,none⟩=some (.string (R.str st.tok.raw)):=z8 n1
 have HN:Y _:=n1
 have HG:Y (w.grownBy w1 (some rb)):=zA (zJ _ _ _) ab
 have J1:Y _:=I1
 have H4:=H3.o
 clear n1 ab I1 H3
 generalize zy s.data.toList st (st.tok.k == 2)=st' at*
 cases hb:st'.broken
 ·rw[hb] at HS
  simp only[xO,if_false] at HS
  obtain⟨h5,ha,af,ag⟩:=H4 hb
  have HA:Y (∀w,Calls Tryz.prog 236 #[.string (R.str st.tok.raw)] w fun e w'=>e = .returned (.tuple #[.int .i64 (R.num st.tok.raw),.nilIface])/\∃t,w'=Lib.bytesWorld w 5 t):=fun w=>
   Tryz.strconv_Atoi (R.str st.tok.raw) _ (by rw[R.str_size];omega) (by rw[R.str_toList];exact ha) w
  clear H4 hb ha
  go_wp2_with fail
  refine(HA.o _).mono ?_
  rintro e w2 ⟨rfl,t,ad⟩
  have aa:w1.grownBy w2 none:=by rw[ad];exact xk _ _ _
  have p1:w2.cell? ⟨w.heap.size,1,none⟩=some (.int .i64 st.tok.at_):=z8 (zB HN.o aa (by simp))
  have J2:Y _:=J1.o.keep aa
  have ae:Y _:=zA HG.o (zk aa _)
  clear ad aa
  go_wp2
  go_region
  go_wp2
  go_ret2
  exact⟨by rw[HS.o];rfl,by rw[HS.o];exact J2.o.keep (zQ _),zA ae.o (zk (zQ _) _),by rw[HS.o];exact af,by rw[HS.o];exact ag⟩
 ·rw[hb] at HS
  simp only[if_true] at HS
  clear H4 hb
  go_wp2
  go_region
  go_wp2
  go_ret2
  exact⟨by rw[HS.o];rfl,by rw[HS.o];exact J1.o.keep (zQ _),zA HG.o (zk (zQ _) _),by rw[HS.o];exact Int.le_refl _,by rw[HS.o];show(0:Int)<=99999;decide⟩
def ql (st:P.St)(e a:Int):P.St:=
 if st.err=0\/a<st.fat\/(a=st.fat/\e<st.err) then { st with err:=e,fat:=a } else st
def zX (st:P.St)(b:Bool)(e a:Int):P.St:=if b then ql st e a else st
def zf (st:P.St)(have_ most:Int):P.St:=zX st (decide (most<=have_)) 3 st.tok.at_
theorem PInv.noted {w w':World}{rb:Nat}{s:ByteArray}{st:P.St}{e a:Int}(h:PInv w rb s st)
  (hr:w'.heap[rb]?=some (.cells #[.string s,.int .i64 st.tok.k,.int .i64 st.tok.at_,.string (R.str st.tok.raw),.bool st.broken,.int .i64 e,.int .i64 a] 204 (0,0))):PInv w' rb s { st with err:=e,fat:=a }:=
 ⟨hr,h.len,h.tok⟩
theorem znJ {w:World}{rb:Nat}{s:ByteArray}{st:P.St}(h:PInv w rb s st)(e0 a0:Int) :
  Calls Tryz.prog 324 #[.pointer (some ⟨rb,0,none⟩),.int .i64 e0,.int .i64 a0] w fun e w'=>e = .returned (.tuple #[])/\PInv w' rb s (ql st e0 a0)/\w.grownBy w' (some rb):=by
 have c5:w.cell? ⟨rb,5,none⟩=some (.int .i64 st.err):=z8 h.rd
 have c6:w.cell? ⟨rb,6,none⟩=some (.int .i64 st.fat):=z8 h.rd
 have f5:w.frozen? ⟨rb,5,none⟩=false:=zC h.rd
 have f6:w.frozen? ⟨rb,6,none⟩=false:=zC h.rd
 have ad:=zE h.rd
 have ab:w.grownBy (w.alloc (.cells #[.int .i64 st.err,.int .i64 st.fat] 202)) none:=zJ _ _ _
 have H0:Y _:=h
 clear h
 have ae:Y (∀w',w'.heap[rb]?=some (.cells #[.string s,.int .i64 st.tok.k,.int .i64 st.tok.at_,.string (R.str st.tok.raw),.bool st.broken,.int .i64 e0,.int .i64 a0] 204 (0,0))->PInv w' rb s { st with err:=e0,fat:=a0 }):=fun w' hr=>H0.o.noted hr
 by_cases hE:st.err=0
 ·have HN:Y (ql st e0 a0={ st with err:=e0,fat:=a0 }):=by show ql _ _ _=_;unfold ql;rw[if_pos (Or.inl hE)]
  have g1:(st.err == 0)=true:=by rw[hE];rfl
  clear hE
  go_enter Tryz.func324,Tryz.ntmps324
  go_wp2
  go_end0
  have aa:w.grownBy (((w.setCell ⟨rb,5,none⟩ (.int .i64 e0)).setCell ⟨rb,6,none⟩ (.int .i64 a0)).alloc (.cells #[.int .i64 st.err,.int .i64 st.fat] 202)) (some rb):=zA (zA (zD _ _ _ _) (zD _ _ _ _)) (zJ _ _ _)
  refine⟨rfl,?_,aa⟩
  rw[HN.o]
  apply ae.o
  rw[Below.heap_alloc _ _ _ (by simp[World.setCell];exact ad)]
  exact zF (zF H0.o.rd _) _
 ·have g1:(st.err == 0)=false:=by rw[beq_eq_false_iff_ne];exact hE
  by_cases ha:a0<st.fat
  ·have HN:Y (ql st e0 a0={ st with err:=e0,fat:=a0 }):=by show ql _ _ _=_;unfold ql;rw[if_pos (Or.inr (Or.inl ha))]
   clear hE
   go_enter Tryz.func324,Tryz.ntmps324
   go_wp2
   go_end0
   have aa:w.grownBy (((w.setCell ⟨rb,5,none⟩ (.int .i64 e0)).setCell ⟨rb,6,none⟩ (.int .i64 a0)).alloc (.cells #[.int .i64 st.err,.int .i64 st.fat] 202)) (some rb):=zA (zA (zD _ _ _ _) (zD _ _ _ _)) (zJ _ _ _)
   refine⟨rfl,?_,aa⟩
   rw[HN.o]
   apply ae.o
   rw[Below.heap_alloc _ _ _ (by simp[World.setCell];exact ad)]
   exact zF (zF H0.o.rd _) _
  ·by_cases hq:a0=st.fat
   ·have g2:(a0 == st.fat)=true:=by rw[hq];simp
    by_cases he:e0<st.err
    ·have HN:Y (ql st e0 a0={ st with err:=e0,fat:=a0 }):=by show ql _ _ _=_;unfold ql;rw[if_pos (Or.inr (Or.inr ⟨hq,he⟩))]
     clear hE hq
     go_enter Tryz.func324,Tryz.ntmps324
     go_wp2
     go_end0
     have aa:w.grownBy (((w.setCell ⟨rb,5,none⟩ (.int .i64 e0)).setCell ⟨rb,6,none⟩ (.int .i64 a0)).alloc (.cells #[.int .i64 st.err,.int .i64 st.fat] 202)) (some rb):=zA (zA (zD _ _ _ _) (zD _ _ _ _)) (zJ _ _ _)
     refine⟨rfl,?_,aa⟩
     rw[HN.o]
     apply ae.o
     rw[Below.heap_alloc _ _ _ (by simp[World.setCell];exact ad)]
     exact zF (zF H0.o.rd _) _
    ·have HN:Y (ql st e0 a0=st):=by show ql _ _ _=_;unfold ql;rw[if_neg (by intro c;rcases c with c | c | c;exact hE c;exact ha c;exact he c.2)]
     clear hE hq
     go_enter Tryz.func324,Tryz.ntmps324
     go_wp2
     go_end0
     exact⟨rfl,by rw[HN.o];exact H0.o.keep ab,zk ab _⟩
   ·have g2:(a0 == st.fat)=false:=by rw[beq_eq_false_iff_ne];exact hq
    have HN:Y (ql st e0 a0=st):=by show ql _ _ _=_;unfold ql;rw[if_neg (by intro c;rcases c with c | c | c;exact hE c;exact ha c;exact hq c.1)]
    clear hE hq
    go_enter Tryz.func324,Tryz.ntmps324
    go_wp2
    go_end0
    exact⟨rfl,by rw[HN.o];exact H0.o.keep ab,zk ab _⟩
theorem xV {w:World}{rb:Nat}{s:ByteArray}{st:P.St}(h:PInv w rb s st)(b:Bool)(e0 a0:Int) :
  Calls Tryz.prog 265 #[.pointer (some ⟨rb,0,none⟩),.bool b,.int .i64 e0,.int .i64 a0] w fun e w'=>e = .returned (.tuple #[])/\PInv w' rb s (zX st b e0 a0)/\w.grownBy w' (some rb):=by
 have HN:Y (zX st b e0 a0=if b then ql st e0 a0 else st):=rfl
 have H0:Y _:=h
 clear h
 cases b
 ·simp only[xO,if_false] at HN
  go_enter Tryz.func265,Tryz.ntmps265
  go_wp2
  go_end0
  exact⟨rfl,by rw[HN.o];exact H0.o,zM _ _⟩
 ·simp only[if_true] at HN
  go_enter Tryz.func265,Tryz.ntmps265
  go_wp2_with fail
  refine(znJ H0.o _ _).mono ?_
  rintro e w1 ⟨rfl,I1,aa⟩
  go_wp2
  go_end0
  exact⟨rfl,by rw[HN.o];exact I1,aa⟩
theorem yx {w:World}{rb:Nat}{s:ByteArray}{st:P.St}(h:PInv w rb s st)(n m:Int) :
  Calls Tryz.prog 205 #[.pointer (some ⟨rb,0,none⟩),.int .i64 n,.int .i64 m] w fun e w'=>e = .returned (.tuple #[])/\PInv w' rb s (zf st n m)/\w.grownBy w' (some rb):=by
 have c2:w.cell? ⟨rb,2,none⟩=some (.int .i64 st.tok.at_):=z8 h.rd
 have HN:Y (zf st n m=zX st (decide (m<=n)) 3 st.tok.at_):=rfl
 have H0:Y _:=h
 clear h
 go_enter Tryz.func205,Tryz.ntmps205
 go_wp2_with fail
 refine(xV H0.o _ _ _).mono ?_
 rintro e w1 ⟨rfl,I1,aa⟩
 go_wp2
 go_end0
 exact⟨rfl,by rw[HN.o];exact I1,aa⟩
theorem zS {w w':World}{B b:Nat}{e:TypeId}{aa:Nat}{v:Value}{n:Nat}{xs:List Value}(h:w.ownsRow B e aa v n xs)(hg:w.grownBy w' (some b))(hk:∀k,v.ownBlock=some k->k≠b):w'.ownsRow B e aa v n xs:=by
 refine h.kept hg ?_
 cases hv:v.ownBlock with
 | none=>exact Or.inl rfl
 | some k=>right;simpa using hk k hv
theorem qM {w w':World}{o:Obj}{b:Nat}{row:Option Nat}(h:w.heap[b]?=some o)(hg:w.grownBy w' row)(hr:∀k,row=some k->k≠b):w'.heap[b]?=some o:=by
 cases row with
 | none=>exact zB h hg (by simp)
 | some k=>exact zB h hg (by simpa using fun e=>hr k rfl e.symm)
theorem zO {w w':World}{B:Nat}{e:TypeId}{aa:Nat}{v:Value}{n:Nat}{xs:List Value}{row:Option Nat}(h:w.ownsRow B e aa v n xs)(hg:w.grownBy w' row)(hk:∀k,v.ownBlock=some k->row≠some k):w'.ownsRow B e aa v n xs:=by
 refine h.kept hg ?_
 cases hv:v.ownBlock with
 | none=>exact Or.inl rfl
 | some k=>right;exact fun c=>hk k hv c.symm
def lenOf:Value->Nat | .slice _ n _=>n | _=>0
theorem zaC {w:World}{B:Nat}{e:TypeId}{aa:Nat}{v:Value}{n:Nat}{xs:List Value}(h:w.ownsRow B e aa v n xs):lenOf v=n:=by
 rcases h.2 with ⟨rfl,rfl⟩ | ⟨g,cap,cur,rfl,_⟩ <;> rfl
theorem zP {w:World}{B:Nat}{e:TypeId}{aa:Nat}{v:Value}{n:Nat}{xs:List Value}(h:w.ownsRow B e aa v n xs):∃a c,v = .slice a n c:=by
 rcases h.2 with ⟨rfl,rfl⟩ | ⟨g,cap,cur,rfl,_⟩
 ·exact⟨_,_,rfl⟩
 ·exact⟨_,_,rfl⟩
structure R.Mt where
 name:List UInt8
 val:List UInt8
 ask:Bool
def qA:List UInt8:=[104,101,97,100,101,114]
def jQ (ts:List R.Tok)(st:R.St)(n:Nat):List UInt8×R.St:=
 R.headerS ts (R.notS (R.needS ts st qA) (decide ((n:Int)<3)) 3 (R.cur ts st).at_) []
def kK (ts:List R.Tok)(s:R.St):List UInt8×R.St:=if R.isB s (R.cur ts s) [61] then R.valueS ts s else ([],s)
def y8 (ts : List R.Tok) (st : R.St) (acc : List R.Mt) : R.St × List R.Mt :=
  (R.needS ts (kK ts (jQ ts st acc.length).2).2 [59],
   acc ++ [⟨(jQ ts st acc.length).1, (kK ts (jQ ts st acc.length).2).1, R.isB (jQ ts st acc.length).2 (R.cur ts (jQ ts st acc.length).2) [61]⟩])
def R.mtLoop (ts:List R.Tok):Nat->R.St->List R.Mt->List R.Mt×R.St
 | 0,st,acc=>(acc,st)
 | n+1,st,acc=>if R.isB st (R.cur ts st) qA then R.mtLoop ts n (y8 ts st acc).1 (y8 ts st acc).2 else (acc,st)
def R.matchesS (ts:List R.Tok)(st:R.St):List R.Mt×R.St:=R.mtLoop ts (ts.length+1) st []
theorem R.among_K (l:List (List UInt8))(s:List UInt8)(p:Int)(st:R.St):(R.among l s p st).K=st.K:=by
 unfold R.among
 induction l generalizing st with
 | nil=>rfl
 | cons a l ih=>rw[List.foldl_cons,ih,R.notS_K]
theorem vj (ts:List R.Tok)(st:R.St)(l:List (List UInt8)):st.K<=(R.headerS ts st l).2.K:=by
 unfold R.headerS;simp only[R.among_K,R.notS_K];exact v7 _ _ _
theorem R.needS_K (ts:List R.Tok)(st:R.St)(s:List UInt8):st.K<=(R.needS ts st s).K:=v7 _ _ _
theorem R.kindS_K (ts:List R.Tok)(st:R.St)(k:Int):st.K<=(R.kindS ts st k).K:=v7 _ _ _
theorem fI (ts:List R.Tok)(st:R.St):st.K<=(R.valueS ts st).2.K:=by
 unfold R.valueS;simp only[R.notS_K];exact zp (R.needS_K _ _ _) (R.kindS_K _ _ _)
theorem uP (ts:List R.Tok)(st:R.St)(aa:List R.Mt)(h:R.isB st (R.cur ts st) qA=true):st.K+1<=(y8 ts st aa).1.K:=by
 have h1:=R.needS_yes h
 have h2:(R.needS ts st qA).K<=(jQ ts st aa.length).2.K:=by
  have:=vj ts (R.notS (R.needS ts st qA) (decide ((aa.length:Int)<3)) 3 (R.cur ts st).at_) []
  rwa[R.notS_K] at this
 have h5:(R.needS ts st qA).K=st.K+1:=by rw[h1]
 have h3:(jQ ts st aa.length).2.K<=(kK ts (jQ ts st aa.length).2).2.K:=by
  unfold kK;split
  ·exact fI _ _
  ·exact zZ _
 have h4:=R.needS_K ts (kK ts (jQ ts st aa.length).2).2 [59]
 unfold y8
 simp only
 omega
structure Kept2 (w w':World) (a b:Nat):Prop where
 os:w'.os=w.os
 tape:w'.tape=w.tape
 output:w'.output=w.output
 size:w.heap.size<=w'.heap.size
 block:∀k,k<w.heap.size->k≠a->k≠b->w'.heap[k]?=w.heap[k]?
theorem qH {w:World}{B:Nat}{e:TypeId}{aa:Nat}{v:Value}{n:Nat}{xs:List Value}(h:w.ownsRow B e aa v n xs):∀k,v.ownBlock=some k->∃c,w.heap[k]?=some (.cells c e (0,0)):=by
 intro k hk
 rcases h.2 with ⟨rfl,_⟩ | ⟨g,cap,cur,rfl,_,hg,_⟩
 ·simp[Value.ownBlock] at hk
 ·simp[Value.ownBlock] at hk;subst hk;exact⟨cur,hg⟩
theorem xW {w:World}{B B':Nat}{e e':TypeId}{s s':Nat}{v v':Value}{n n':Nat}{xs ab:List Value}(h:w.ownsRow B e s v n xs)(h':w.ownsRow B' e' s' v' n' ab)(aa:e≠e'):∀k,v'.ownBlock=some k->v.ownBlock≠some k:=by
 intro k hk hv
 obtain⟨c,h1⟩:=qH h k hv
 obtain⟨c',h2⟩:=qH h' k hk
 rw[h1] at h2
 simp only[Option.some.injEq,Obj.cells.injEq] at h2
 exact aa h2.2.1
theorem zV {w:World}{b B:Nat}{cs:Array Value}{t e:TypeId}{f:Nat×Nat}{s:Nat}{v:Value}{n:Nat}{xs:List Value}(h:w.heap[b]?=some (.cells cs t f))(h':w.ownsRow B e s v n xs)(aa:t≠e):∀k,v.ownBlock=some k->k≠b:=by
 intro k hk e1
 obtain⟨c',h2⟩:=qH h' k hk
 rw[e1,h] at h2
 simp only[Option.some.injEq,Obj.cells.injEq] at h2
 exact aa h2.2.1
theorem qK {w:World}{B B':Nat}{e:TypeId}{s:Nat}{v:Value}{n:Nat}{xs:List Value}(h:w.ownsRow B e s v n xs)(hb:B'<=B):w.ownsRow B' e s v n xs:=by
 refine⟨h.1,?_⟩
 rcases h.2 with h2 | ⟨g,cap,cur,rfl,h3,r⟩
 ·exact Or.inl h2
 ·exact Or.inr ⟨g,cap,cur,rfl,by omega,r⟩
def zb (l:List (List UInt8×List UInt8)):List Value:=(l.map fun t=>[Value.string (R.str t.1),.string (R.str t.2)]).flatten
theorem xN (l:List (List UInt8×List UInt8))(t:List UInt8×List UInt8):zb (l++[t])=zb l++[Value.string (R.str t.1),.string (R.str t.2)]:=by simp[zb]
theorem jN (l:List (List UInt8))(t:List UInt8):zh (l++[t])=zh l++[Value.string (R.str t)]:=by simp[zh]
def qy:List UInt8:=[115,101,116]
def qX:List UInt8:=[100,114,111,112]
def kq (ts:List R.Tok)(st:R.St)(n:Nat)(am:List (List UInt8)):List UInt8×R.St:=
 R.headerS ts (R.notS (R.needS ts st qy) (decide ((n:Int)<3)) 3 (R.cur ts st).at_) am
def yA (ts:List R.Tok)(st:R.St)(acc:List (List UInt8×List UInt8)):R.St×List (List UInt8×List UInt8):=
 (R.needS ts (R.valueS ts (kq ts st acc.length (acc.map Prod.fst)).2).2 [59],acc++[((kq ts st acc.length (acc.map Prod.fst)).1,(R.valueS ts (kq ts st acc.length (acc.map Prod.fst)).2).1)])
def R.stLoop (ts:List R.Tok):Nat->R.St->List (List UInt8×List UInt8)->List (List UInt8×List UInt8)×R.St
 | 0,st,acc=>(acc,st)
 | n+1,st,acc=>if R.isB st (R.cur ts st) qy then R.stLoop ts n (yA ts st acc).1 (yA ts st acc).2 else (acc,st)
def fG (ts:List R.Tok)(st:R.St)(n:Nat)(am:List (List UInt8)):List UInt8×R.St:=
 R.headerS ts (R.notS (R.needS ts st qX) (decide ((n:Int)<3)) 3 (R.cur ts st).at_) am
def y7 (ts:List R.Tok)(st:R.St)(sets acc:List (List UInt8)):R.St×List (List UInt8):=
 (R.needS ts (fG ts st acc.length (sets++acc)).2 [59],acc++[(fG ts st acc.length (sets++acc)).1])
def R.dpLoop (ts:List R.Tok)(sets:List (List UInt8)):Nat->R.St->List (List UInt8)->List (List UInt8)×R.St
 | 0,st,acc=>(acc,st)
 | n+1,st,acc=>if R.isB st (R.cur ts st) qX then R.dpLoop ts sets n (y7 ts st sets acc).1 (y7 ts st sets acc).2 else (acc,st)
def R.editsS (ts : List R.Tok) (st : R.St) : (List (List UInt8 × List UInt8) × List (List UInt8)) × R.St :=
  (((R.stLoop ts (ts.length + 1) st []).1, (R.dpLoop ts ((R.stLoop ts (ts.length + 1) st []).1.map Prod.fst) (ts.length + 1) (R.stLoop ts (ts.length + 1) st []).2 []).1),
   (R.dpLoop ts ((R.stLoop ts (ts.length + 1) st []).1.map Prod.fst) (ts.length + 1) (R.stLoop ts (ts.length + 1) st []).2 []).2)
theorem uQ (ts:List R.Tok)(st:R.St)(aa:List (List UInt8×List UInt8))(h:R.isB st (R.cur ts st) qy=true):st.K+1<=(yA ts st aa).1.K:=by
 have h1:=R.needS_yes h
 have h2:(R.needS ts st qy).K<=(kq ts st aa.length (aa.map Prod.fst)).2.K:=by
  have:=vj ts (R.notS (R.needS ts st qy) (decide ((aa.length:Int)<3)) 3 (R.cur ts st).at_) (aa.map Prod.fst)
  rwa[R.notS_K] at this
 have h5:(R.needS ts st qy).K=st.K+1:=by rw[h1]
 have h3:=fI ts (kq ts st aa.length (aa.map Prod.fst)).2
 have h4:=R.needS_K ts (R.valueS ts (kq ts st aa.length (aa.map Prod.fst)).2).2 [59]
 unfold yA
 simp only
 omega
theorem uN (ts:List R.Tok)(st:R.St)(ab aa:List (List UInt8))(h:R.isB st (R.cur ts st) qX=true):st.K+1<=(y7 ts st ab aa).1.K:=by
 have h1:=R.needS_yes h
 have h2:(R.needS ts st qX).K<=(fG ts st aa.length (ab++aa)).2.K:=by
  have:=vj ts (R.notS (R.needS ts st qX) (decide ((aa.length:Int)<3)) 3 (R.cur ts st).at_) (ab++aa)
  rwa[R.notS_K] at this
 have h5:(R.needS ts st qX).K=st.K+1:=by rw[h1]
 have h4:=R.needS_K ts (fG ts st aa.length (ab++aa)).2 [59]
 unfold y7
 simp only
 omega
theorem fW:(Tryz.prog.info? 9).map (fun i=>(i.zero,i.size,i.bytes))=some (some (.string ⟨#[]⟩),1,16):=by kernel_rfl
end Go.Proofs.YtfocdefchbnkpaaGreatDoor
