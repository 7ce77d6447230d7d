/- Heads of requests, as the program takes them: what is cut off, hosts, headers. -/
import Derived.Test.YtfocdefchbnkpaaGreatDoorAli
import Derived.Test.YtfocdefchbnkpaaGreatDoorPkG
import Derived.Shelf.Strconv.AtoiErr
import Derived.Ground.NamesProg
import Derived.Test.YtfocdefchbnkpaaGreatDoorProg
import Derived.Test.YtfocdefchbnkpaaGreatDoorProW
import Derived.Shelf.Small.Wraps
import Derived.Test.YtfocdefchbnkpaaGreatDoorRefS
import Derived.ArgAppend
import Derived.OwnWalk
import Derived.Laws.OwnMore
set_option maxRecDepth 100000
set_option maxHeartbeats 20000000
namespace Go.Proofs.YtfocdefchbnkpaaGreatDoor
open Go.RowKit
theorem zkO (l:List UInt8)(c:UInt8)(w:World)(hs:l.length<=1000000) :
  Calls Tryz.prog 308 #[.string (R.str l),.string ⟨#[c]⟩] w fun e w'=>e = .returned (.tuple #[.string (R.str (Lib.cut l [c]).1),.string (R.str (Lib.cut l [c]).2.1),.bool (Lib.cut l [c]).2.2])/\w.grownBy w' none:=by
 have hz:(R.str l).size=l.length:=R.str_size l
 have hd:(R.str l).data.toList=l:=R.str_toList l
 have HC:Y (Lib.cut l [c]=if 0<=Lib.index l [c] then (l.take (Lib.index l [c]).toNat,l.drop ((Lib.index l [c]).toNat+1),true) else (l,[],false)):=rfl
 have ab:0<=Lib.index l [c]->Lib.index l [c]+1<=l.length:=fun h=>by
  have:=Lib.index_room l [c] h
  simpa using this
 have HI:Y (∀w,Calls Tryz.prog 364 #[.string (R.str l),.string ⟨#[c]⟩] w fun e w'=>e = .returned (.int .i64 (Lib.index l [c]))/\w'=w):=fun w=>by
  have h:=Tryz.stringslite_Index_one (R.str l) c w
  rw[R.str_toList,kS] at h;exact h
 generalize Lib.index l [c]=k at*
 by_cases h0:0<=k
 ·rw[if_pos h0] at HC
  obtain⟨n,rfl⟩:=Int.eq_ofNat_of_zero_le h0
  have hr:=ab h0
  clear ab
  have ad:(R.str l).extract 0 n=R.str (l.take n):=by rw[jr,Nat.sub_zero,List.drop_zero,hd]
  have ae:(R.str l).extract (n+1) l.length=R.str (l.drop (n+1)):=by rw[jr,hd,jS (by rw[List.length_drop];omega)]
  go_enter Tryz.func308,Tryz.ntmps308
  go_wp2_with fail
  refine(HI.o _).mono ?_
  rintro e wX ⟨rfl,aa⟩
  rw[aa]
  clear aa wX
  go_wp2
  go_region
  go_wp2
  go_ret3
  exact⟨by rw[HC.o];exact zj7 rfl rfl,zQ _⟩
 ·rw[if_neg h0] at HC
  clear ab
  go_enter Tryz.func308,Tryz.ntmps308
  go_wp2_with fail
  refine(HI.o _).mono ?_
  rintro e wX ⟨rfl,aa⟩
  rw[aa]
  clear aa wX
  go_wp2
  go_ret3
  exact⟨by rw[HC.o];rfl,zM _ _⟩
theorem vz (l:List UInt8)(c:UInt8)(w:World)(hs:l.length<=1000000) :
  Calls Tryz.prog 238 #[.string (R.str l),.string ⟨#[c]⟩] w fun e w'=>e = .returned (.tuple #[.string (R.str (Lib.cut l [c]).1),.string (R.str (Lib.cut l [c]).2.1),.bool (Lib.cut l [c]).2.2])/\w.grownBy w' none:=by
 have HC:=hid (zkO l c w hs)
 generalize Lib.cut l [c]=x at*
 go_enter Tryz.func238,Tryz.ntmps238
 go_wp2_with fail
 refine HC.o.mono ?_
 rintro e wX ⟨rfl,hg⟩
 go_wp2
 go_ret3
 exact⟨rfl,hg⟩
theorem jW (l:List UInt8)(c:UInt8):(Lib.cut l [c]).1.length<=l.length/\(Lib.cut l [c]).2.1.length<=l.length:=by
 unfold Lib.cut;split
 ·simp only[List.length_take,List.length_drop];omega
 ·simp
def Rq.unend (l:List UInt8)(c:UInt8):List UInt8×Bool:=if Lib.hasSuffix l [c] then (l.take (l.length - 1),true) else (l,false)
theorem ziO (l:List UInt8)(c:UInt8)(h:Lib.hasSuffix l [c]=true):1<=l.length:=by
 cases l with
 | nil=>simp[Lib.hasSuffix] at h
 | cons a r=>simp
theorem zlJ (l:List UInt8)(c:UInt8)(w:World)(hs:l.length<=1000000) :
  Calls Tryz.prog 300 #[.string (R.str l),.string ⟨#[c]⟩] w fun e w'=>e = .returned (.tuple #[.string (R.str (Rq.unend l c).1),.bool (Rq.unend l c).2])/\w.grownBy w' none:=by
 have hz:(R.str l).size=l.length:=R.str_size l
 have hd:(R.str l).data.toList=l:=R.str_toList l
 have HU:Y (Rq.unend l c=if Lib.hasSuffix l [c] then (l.take (l.length - 1),true) else (l,false)):=rfl
 have HS:Y (Calls Tryz.prog 350 #[.string (R.str l),.string ⟨#[c]⟩] w fun e w'=>e = .returned (.bool (Lib.hasSuffix l [c]))/\w'=w):=by
  have h:=Tryz.stringslite_HasSuffix (R.str l) ⟨#[c]⟩ w (by omega)
  rw[R.str_toList] at h;exact h
 have hp:=ziO l c
 generalize Lib.hasSuffix l [c]=b at*
 cases b
 ·go_enter Tryz.func300,Tryz.ntmps300
  go_wp2_with fail
  refine HS.o.mono ?_
  rintro e wX ⟨rfl,aa⟩
  rw[aa]
  clear aa wX
  go_wp2
  go_ret2
  exact⟨by rw[HU.o];rfl,zM _ _⟩
 ·have ad:=hp rfl
  have ab:(R.str l).extract 0 (l.length - 1)=R.str (l.take (l.length - 1)):=by rw[jr,Nat.sub_zero,List.drop_zero,hd]
  go_enter Tryz.func300,Tryz.ntmps300
  go_wp2_with fail
  refine HS.o.mono ?_
  rintro e wX ⟨rfl,aa⟩
  rw[aa]
  clear aa wX hp
  go_wp2
  go_ret2
  exact⟨by rw[HU.o,if_pos trivial];rfl,zM _ _⟩
theorem tS (l:List UInt8)(c:UInt8)(w:World)(hs:l.length<=1000000) :
  Calls Tryz.prog 231 #[.string (R.str l),.string ⟨#[c]⟩] w fun e w'=>e = .returned (.tuple #[.string (R.str (Rq.unend l c).1),.bool (Rq.unend l c).2])/\w.grownBy w' none:=by
 have HC:=hid (zlJ l c w hs)
 generalize Rq.unend l c=x at*
 go_enter Tryz.func231,Tryz.ntmps231
 go_wp2_with fail
 refine HC.o.mono ?_
 rintro e wX ⟨rfl,hg⟩
 go_wp2
 go_ret2
 exact⟨rfl,hg⟩
def Rq.isHost (l:List UInt8):Bool:=R.labels (Lib.cut l [58]).1 true && (!(Lib.cut l [58]).2.2 || Rq.isNumber (Lib.cut l [58]).2.1)
theorem zi4 (l:List UInt8)(w:World)(hG:Glob w)(hs:l.length<=3000) :
  Calls Tryz.prog 358 #[.string (R.str l)] w fun e w'=>e = .returned (.bool (Rq.isHost l))/\w.grownBy w' none:=by
 have HC:=hid (vz l 58 w (by omega))
 have ad:=jW l 58
 have HM:Y (Rq.isHost l=(R.labels (Lib.cut l [58]).1 true && (!(Lib.cut l [58]).2.2 || Rq.isNumber (Lib.cut l [58]).2.1))):=rfl
 have ab:=hid hG
 generalize Lib.cut l [58]=x at*
 obtain⟨nm,pt,hp⟩:=x
 simp only at HC HM ad
 have HN:Y (∀W,w.grownBy W none->Calls Tryz.prog 325 #[.string (R.str nm)] W fun e w'=>e = .returned (.bool (R.labels nm true))/\w.grownBy w' none):=fun W hW=>by
  obtain⟨m,hm⟩:=(ab.o.grown hW)
  have h:=fi (R.str nm) W m hm (by have:(R.str nm).size=nm.length:=R.str_size nm;omega)
  rw[R.str_toList] at h
  exact h.mono fun e w' ⟨q1,q2⟩=>⟨q1,zA hW q2⟩
 have HP:Y (∀W,Calls Tryz.prog 401 #[.string (R.str pt)] W fun e w'=>e = .returned (.bool (Rq.isNumber pt))/\w'=W):=fun W=>wH pt W (by omega)
 generalize R.labels nm true=b1 at*
 generalize Rq.isNumber pt=b2 at*
 clear hG
 go_enter Tryz.func358,Tryz.ntmps358
 go_wp2_with fail
 refine HC.o.mono ?_
 rintro e w1 ⟨rfl,g1⟩
 have G1:=hid g1
 clear g1 HC
 go_wp2_with fail
 refine(HN.o _ G1.o).mono ?_
 rintro e w2 ⟨rfl,g2⟩
 have G2:=hid g2
 clear g2 HN G1
 cases b1
 ·go_wp2
  go_ret
  exact⟨za (by rw[HM.o];rfl),G2.o⟩
 ·cases hp
  ·go_wp2
   go_ret
   exact⟨za (by rw[HM.o];rfl),G2.o⟩
  ·go_wp2_with fail
   refine(HP.o _).mono ?_
   rintro e wX ⟨rfl,aa⟩
   rw[aa]
   clear aa wX
   go_wp2
   go_ret
   exact⟨za (by rw[HM.o];simp),G2.o⟩
def Rq.readOk (l:List UInt8):Bool:=(Lib.cut l [58]).2.2 && (R.word (Lib.cut l [58]).1 true && R.allB Rq.vlI (Lib.cut l [58]).2.1)
def Rq.readHd (l:List UInt8):Hd:=(R.lower (Lib.cut l [58]).1,Lib.trimB (Lib.cut l [58]).2.1 32)
theorem uw {w:World}{b:Nat}{x y:Value}{t:TypeId}(h:w.heap[b]?=some (.cells #[x,y] t (0,0)))(u v:Value):((w.setCell ⟨b,0,none⟩ u).setCell ⟨b,1,none⟩ v).heap[b]?=some (.cells #[u,v] t (0,0)):=zF (i:=1) (zF (i:=0) h u) v
theorem kI {w0 w:World}{b:Nat}(h:w0.grownBy w none)(hb:w0.heap.size<=b)(u v:Value):w0.grownBy ((w.setCell ⟨b,0,none⟩ u).setCell ⟨b,1,none⟩ v) none:=zY (zY h (zD _ _ _ _) hb) (zD _ _ _ _) hb
def Rq.readIf (l:List UInt8):Hd:=if Rq.readOk l then Rq.readHd l else ([],[])
theorem ft (l:List UInt8)(w:World)(hs:l.length<=3000) :
  Calls Tryz.prog 304 #[.string (R.str l)] w fun e w'=>e = .returned (.tuple #[.agg #[.string (R.str (Rq.readIf l).1),.string (R.str (Rq.readIf l).2)],.bool (Rq.readOk l)])/\w.grownBy w' none:=by
 have gA:w.grownBy (w.alloc (.cells #[.string ⟨#[]⟩,.string ⟨#[]⟩] 346)) none:=zJ _ _ none
 have HB:=hid (heap_alloc_new w (.cells #[.string ⟨#[]⟩,.string ⟨#[]⟩] 346))
 have ag:=zE HB.o
 have HC:Y (∀W,Calls Tryz.prog 238 #[.string (R.str l),.string ⟨#[58]⟩] W fun e w'=>e = .returned (.tuple #[.string (R.str (Lib.cut l [58]).1),.string (R.str (Lib.cut l [58]).2.1),.bool (Lib.cut l [58]).2.2])/\W.grownBy w' none):=fun W=>vz l 58 W (by omega)
 have af:=jW l 58
 have HI:Y (Rq.readIf l=if Rq.readOk l then Rq.readHd l else ([],[])):=rfl
 have HO:Y (Rq.readOk l=((Lib.cut l [58]).2.2 && (R.word (Lib.cut l [58]).1 true && R.allB Rq.vlI (Lib.cut l [58]).2.1))):=rfl
 have HH:Y (Rq.readHd l=(R.lower (Lib.cut l [58]).1,Lib.trimB (Lib.cut l [58]).2.1 32)):=rfl
 generalize Lib.cut l [58]=x at*
 obtain⟨nm,vl,hp⟩:=x
 simp only at HC HO HH af
 have HL:Y (∀W,Calls Tryz.prog 354 #[.string (R.str nm)] W fun e w'=>e = .returned (.bool (R.word nm true))/\w'=W):=fun W=>by
  have h:=ju (R.str nm) W (by have:(R.str nm).size=nm.length:=R.str_size nm;unfold maxLen;omega)
  rw[R.str_toList] at h;exact h
 have HV:Y (∀W,Calls Tryz.prog 352 #[.string (R.str vl),.func (.func 355) #[] #[]] W fun e w'=>e = .returned (.bool (R.allB Rq.vlI vl))/\w'=W):=fun W=>zcA vl W (by omega)
 have HS:Y (∀W,Calls Tryz.prog 239 #[.string (R.str nm)] W fun e w'=>e = .returned (.string (R.str (R.lower nm)))/\W.grownBy w' none):=fun W=>by
  have h:=jc (R.str nm) W (by have:(R.str nm).size=nm.length:=R.str_size nm;omega)
  rw[R.str_toList] at h;exact h
 have HT:Y (∀W,Calls Tryz.prog 356 #[.string (R.str vl),.string ⟨#[32]⟩] W fun e w'=>e = .returned (.string (R.str (Lib.trimB vl 32)))/\W.grownBy w' none):=fun W=>by
  have h:=Tryz.strings_Trim_one (R.str vl) 32 (by decide) W (by have:(R.str vl).size=vl.length:=R.str_size vl;omega)
  rw[R.str_toList] at h
  exact h.mono fun e w' ⟨q1,q2⟩=>⟨q1,by rcases q2 with rfl | rfl;exact zM _ _;exact zQ _⟩
 generalize R.word nm true=b1 at*
 generalize R.allB Rq.vlI vl=b2 at*
 go_enter Tryz.func304,Tryz.ntmps304
 go_wp2_with fail
 refine(HC.o _).mono ?_
 rintro e w1 ⟨rfl,g1⟩
 have G1:=hid (zA gA g1)
 have ab:=hid (zB HB.o g1 (by simp))
 have ah:=zE ab.o
 clear g1 HC gA HB ag
 have k0:w1.cell? ⟨w.heap.size,0,none⟩=some (.string ⟨#[]⟩):=z8 ab.o
 have k1:w1.cell? ⟨w.heap.size,1,none⟩=some (.string ⟨#[]⟩):=z8 ab.o
 have f0:=zrB 0 ab.o
 have f1:=zrB 1 ab.o
 cases hp
 ·go_wp2_with fail
  have HZ:=hid (uw ab.o (.string ⟨#[]⟩) (.string ⟨#[]⟩))
  have z0:((w1.setCell ⟨w.heap.size,0,none⟩ (.string ⟨#[]⟩)).setCell ⟨w.heap.size,1,none⟩ (.string ⟨#[]⟩)).cell? ⟨w.heap.size,0,none⟩=some (.string ⟨#[]⟩):=z8 HZ.o
  have z1:((w1.setCell ⟨w.heap.size,0,none⟩ (.string ⟨#[]⟩)).setCell ⟨w.heap.size,1,none⟩ (.string ⟨#[]⟩)).cell? ⟨w.heap.size,1,none⟩=some (.string ⟨#[]⟩):=z8 HZ.o
  exact bodyPost_ret (v:=.tuple #[.agg #[.string ⟨#[]⟩,.string ⟨#[]⟩],.bool false]) (by simp[results,Tryz.results304,go_sem,z0,z1]) rfl ⟨by rw[HI.o,HO.o];rfl,kI G1.o (zZ _) _ _⟩
 ·cases b1
  ·go_wp2_with fail
   refine(HL.o _).mono ?_
   rintro e wX ⟨rfl,aa⟩
   rw[aa]
   clear aa wX
   go_wp2_with fail
   have HZ:=hid (uw ab.o (.string ⟨#[]⟩) (.string ⟨#[]⟩))
   have z0:((w1.setCell ⟨w.heap.size,0,none⟩ (.string ⟨#[]⟩)).setCell ⟨w.heap.size,1,none⟩ (.string ⟨#[]⟩)).cell? ⟨w.heap.size,0,none⟩=some (.string ⟨#[]⟩):=z8 HZ.o
   have z1:((w1.setCell ⟨w.heap.size,0,none⟩ (.string ⟨#[]⟩)).setCell ⟨w.heap.size,1,none⟩ (.string ⟨#[]⟩)).cell? ⟨w.heap.size,1,none⟩=some (.string ⟨#[]⟩):=z8 HZ.o
   exact bodyPost_ret (v:=.tuple #[.agg #[.string ⟨#[]⟩,.string ⟨#[]⟩],.bool false]) (by simp[results,Tryz.results304,go_sem,z0,z1]) rfl ⟨by rw[HI.o,HO.o];rfl,kI G1.o (zZ _) _ _⟩
  ·go_wp2_with fail
   refine(HL.o _).mono ?_
   rintro e wX ⟨rfl,aa⟩
   rw[aa]
   clear aa wX
   cases b2
   ·go_wp2_with fail
    refine(HV.o _).mono ?_
    rintro e wX ⟨rfl,aa⟩
    rw[aa]
    clear aa wX
    go_wp2_with fail
    have HZ:=hid (uw ab.o (.string ⟨#[]⟩) (.string ⟨#[]⟩))
    have z0:((w1.setCell ⟨w.heap.size,0,none⟩ (.string ⟨#[]⟩)).setCell ⟨w.heap.size,1,none⟩ (.string ⟨#[]⟩)).cell? ⟨w.heap.size,0,none⟩=some (.string ⟨#[]⟩):=z8 HZ.o
    have z1:((w1.setCell ⟨w.heap.size,0,none⟩ (.string ⟨#[]⟩)).setCell ⟨w.heap.size,1,none⟩ (.string ⟨#[]⟩)).cell? ⟨w.heap.size,1,none⟩=some (.string ⟨#[]⟩):=z8 HZ.o
    exact bodyPost_ret (v:=.tuple #[.agg #[.string ⟨#[]⟩,.string ⟨#[]⟩],.bool false]) (by simp[results,Tryz.results304,go_sem,z0,z1]) rfl ⟨by rw[HI.o,HO.o];rfl,kI G1.o (zZ _) _ _⟩
   ·go_wp2_with fail
    refine(HV.o _).mono ?_
    rintro e wX ⟨rfl,aa⟩
    rw[aa]
    clear aa wX
    go_wp2_with fail
    refine(HS.o _).mono ?_
    rintro e w2 ⟨rfl,g2⟩
    have G2:=hid (zA G1.o g2)
    have ae:=hid (zB ab.o g2 (by simp))
    have ai:=zE ae.o
    clear g2 ab G1 k0 k1 f0 f1 HS
    go_wp2_with fail
    refine(HT.o _).mono ?_
    rintro e w3 ⟨rfl,g3⟩
    have G3:=hid (zA G2.o g3)
    have ad:=hid (zB ae.o g3 (by simp))
    have aj:=zE ad.o
    clear g3 ae G2 HT
    have k0:w3.cell? ⟨w.heap.size,0,none⟩=some (.string ⟨#[]⟩):=z8 ad.o
    have k1:w3.cell? ⟨w.heap.size,1,none⟩=some (.string ⟨#[]⟩):=z8 ad.o
    have f0:=zrB 0 ad.o
    have f1:=zrB 1 ad.o
    go_wp2_with fail
    have HZ:=hid (uw ad.o (.string (R.str (R.lower nm))) (.string (R.str (Lib.trimB vl 32))))
    have z0:((w3.setCell ⟨w.heap.size,0,none⟩ (.string (R.str (R.lower nm)))).setCell ⟨w.heap.size,1,none⟩ (.string (R.str (Lib.trimB vl 32)))).cell? ⟨w.heap.size,0,none⟩=some (.string (R.str (R.lower nm))):=z8 HZ.o
    have z1:((w3.setCell ⟨w.heap.size,0,none⟩ (.string (R.str (R.lower nm)))).setCell ⟨w.heap.size,1,none⟩ (.string (R.str (Lib.trimB vl 32)))).cell? ⟨w.heap.size,1,none⟩=some (.string (R.str (Lib.trimB vl 32))):=z8 HZ.o
    exact bodyPost_ret (v:=.tuple #[.agg #[.string (R.str (R.lower nm)),.string (R.str (Lib.trimB vl 32))],.bool true]) (by simp[results,Tryz.results304,go_sem,z0,z1]) rfl ⟨by rw[HI.o,HO.o,HH.o];rfl,kI G3.o (zZ _) _ _⟩
end Go.Proofs.YtfocdefchbnkpaaGreatDoor
namespace Go.Proofs
open Go.Shelf Go.RowKit Go.Lib
def Tryz.laysC172_ren : Go.Shelf.Ren := ⟨fun | 172 => 236 | 244 => 306 | 245 => 307 | 247 => 359 | 279 => 360 | 280 => 361 | 281 => 362 | 282 => 363 | 287 => 402 | 316 => 403 | 171 => 159 | 205 => 404 | 321 => 423 | 322 => 424 | 243 => 219 | 246 => 298 | 283 => 346 | 284 => 347 | 285 => 348 | 286 => 349 | 129 => 285 | 317 => 387 | 318 => 388 | 319 => 389 | 320 => 390 | 337 => 415 | 338 => 416 | n => n, fun | 9 => 9 | 3 => 3 | 75 => 270 | 76 => 271 | 4 => 4 | 5 => 5 | 167 => 421 | 37 => 32 | 0 => 0 | 85 => 422 | 2 => 2 | 168 => 424 | 53 => 60 | 175 => 451 | 46 => 220 | 210 => 454 | 127 => 215 | 145 => 466 | 143 => 464 | 21 => 21 | 171 => 415 | 173 => 417 | 212 => 441 | 51 => 152 | 20 => 20 | 213 => 442 | 232 => 469 | 233 => 470 | 80 => 58 | n => n, fun | 15 => 2 | 16 => 3 | 17 => 1 | 18 => 4 | 19 => 5 | n => n⟩
theorem Tryz.laysC172 : Go.Proofs.LaysC.n172 Tryz.prog Tryz.laysC172_ren := {
  mixed := by kernel_rfl
  f129 := Tryz.func285.trans (congrArg some (by kernel_rfl))
  f171 := Tryz.func159.trans (congrArg some (by kernel_rfl))
  f172 := Tryz.func236.trans (congrArg some (by kernel_rfl))
  f205 := Tryz.func404.trans (congrArg some (by kernel_rfl))
  f243 := Tryz.func219.trans (congrArg some (by kernel_rfl))
  f244 := Tryz.func306.trans (congrArg some (by kernel_rfl))
  f245 := Tryz.func307.trans (congrArg some (by kernel_rfl))
  f246 := Tryz.func298.trans (congrArg some (by kernel_rfl))
  f247 := Tryz.func359.trans (congrArg some (by kernel_rfl))
  f279 := Tryz.func360.trans (congrArg some (by kernel_rfl))
  f280 := Tryz.func361.trans (congrArg some (by kernel_rfl))
  f281 := Tryz.func362.trans (congrArg some (by kernel_rfl))
  f282 := Tryz.func363.trans (congrArg some (by kernel_rfl))
  f283 := Tryz.func346.trans (congrArg some (by kernel_rfl))
  f284 := Tryz.func347.trans (congrArg some (by kernel_rfl))
  f285 := Tryz.func348.trans (congrArg some (by kernel_rfl))
  f286 := Tryz.func349.trans (congrArg some (by kernel_rfl))
  f287 := Tryz.func402.trans (congrArg some (by kernel_rfl))
  f316 := Tryz.func403.trans (congrArg some (by kernel_rfl))
  f317 := Tryz.func387.trans (congrArg some (by kernel_rfl))
  f318 := Tryz.func388.trans (congrArg some (by kernel_rfl))
  f319 := Tryz.func389.trans (congrArg some (by kernel_rfl))
  f320 := Tryz.func390.trans (congrArg some (by kernel_rfl))
  f321 := Tryz.func423.trans (congrArg some (by kernel_rfl))
  f322 := Tryz.func424.trans (congrArg some (by kernel_rfl))
  f337 := Tryz.func415.trans (congrArg some (by kernel_rfl))
  f338 := Tryz.func416.trans (congrArg some (by kernel_rfl))
  t0 := Tryz.underlying0
  a0 := Tryz.isAgg0
  z0 := Tryz.sizeOf0
  v0 := Tryz.zeroValue0
  t2 := Tryz.underlying2
  a2 := Tryz.isAgg2
  z2 := Tryz.sizeOf2
  v2 := Tryz.zeroValue2
  t3 := Tryz.underlying3
  a3 := Tryz.isAgg3
  z3 := Tryz.sizeOf3
  v3 := Tryz.zeroValue3
  t4 := Tryz.underlying4
  a4 := Tryz.isAgg4
  z4 := Tryz.sizeOf4
  v4 := Tryz.zeroValue4
  t5 := Tryz.underlying5
  a5 := Tryz.isAgg5
  z5 := Tryz.sizeOf5
  v5 := Tryz.zeroValue5
  t9 := Tryz.underlying9
  a9 := Tryz.isAgg9
  z9 := Tryz.sizeOf9
  v9 := Tryz.zeroValue9
  t20 := Tryz.underlying20
  a20 := Tryz.isAgg20
  z20 := Tryz.sizeOf20
  v20 := Tryz.zeroValue20
  t21 := Tryz.underlying21
  a21 := Tryz.isAgg21
  z21 := Tryz.sizeOf21
  v21 := Tryz.zeroValue21
  t37 := Tryz.underlying32
  a37 := Tryz.isAgg32
  z37 := Tryz.sizeOf32
  v37 := Tryz.zeroValue32
  t46 := Tryz.underlying220
  a46 := Tryz.isAgg220
  z46 := Tryz.sizeOf220
  v46 := Tryz.zeroValue220
  t51 := Tryz.underlying152
  a51 := Tryz.isAgg152
  z51 := Tryz.sizeOf152
  v51 := Tryz.zeroValue152
  t53 := Tryz.underlying60
  a53 := Tryz.isAgg60
  z53 := Tryz.sizeOf60
  v53 := Tryz.zeroValue60
  t75 := Tryz.underlying270
  a75 := Tryz.isAgg270
  z75 := Tryz.sizeOf270
  v75 := Tryz.zeroValue270
  t76 := Tryz.underlying271
  a76 := Tryz.isAgg271
  z76 := Tryz.sizeOf271
  v76 := Tryz.zeroValue271
  t85 := Tryz.underlying422
  a85 := Tryz.isAgg422
  z85 := Tryz.sizeOf422
  v85 := Tryz.zeroValue422
  t127 := Tryz.underlying215
  a127 := Tryz.isAgg215
  z127 := Tryz.sizeOf215
  v127 := Tryz.zeroValue215
  t143 := Tryz.underlying464
  a143 := Tryz.isAgg464
  z143 := Tryz.sizeOf464
  v143 := Tryz.zeroValue464
  t145 := Tryz.underlying466
  a145 := Tryz.isAgg466
  z145 := Tryz.sizeOf466
  v145 := Tryz.zeroValue466
  t167 := Tryz.underlying421
  a167 := Tryz.isAgg421
  z167 := Tryz.sizeOf421
  v167 := Tryz.zeroValue421
  t168 := Tryz.underlying424
  a168 := Tryz.isAgg424
  z168 := Tryz.sizeOf424
  v168 := Tryz.zeroValue424
  t171 := Tryz.underlying415
  a171 := Tryz.isAgg415
  z171 := Tryz.sizeOf415
  v171 := Tryz.zeroValue415
  t173 := Tryz.underlying417
  a173 := Tryz.isAgg417
  z173 := Tryz.sizeOf417
  v173 := Tryz.zeroValue417
  t175 := Tryz.underlying451
  a175 := Tryz.isAgg451
  z175 := Tryz.sizeOf451
  v175 := Tryz.zeroValue451
  t210 := Tryz.underlying454
  a210 := Tryz.isAgg454
  z210 := Tryz.sizeOf454
  v210 := Tryz.zeroValue454
  t212 := Tryz.underlying441
  a212 := Tryz.isAgg441
  z212 := Tryz.sizeOf441
  v212 := Tryz.zeroValue441
  t213 := Tryz.underlying442
  a213 := Tryz.isAgg442
  z213 := Tryz.sizeOf442
  t232 := Tryz.underlying469
  a232 := Tryz.isAgg469
  z232 := Tryz.sizeOf469
  v232 := Tryz.zeroValue469
  t233 := Tryz.underlying470
  a233 := Tryz.isAgg470
  z233 := Tryz.sizeOf470
  v233 := Tryz.zeroValue470
  g15 := by kernel_rfl
  g16 := by kernel_rfl
  g17 := by kernel_rfl
  g18 := by kernel_rfl
  g19 := by kernel_rfl
  t80 := Tryz.underlying58
  a80 := Tryz.isAgg58
  z80 := Tryz.sizeOf58
  v80 := Tryz.zeroValue58
  i0 := by kernel_rfl
  i2 := by kernel_rfl
  i3 := by kernel_rfl
  i4 := by kernel_rfl
  i5 := by kernel_rfl
  i9 := by kernel_rfl
  i20 := by kernel_rfl
  i21 := by kernel_rfl
  i37 := by kernel_rfl
  i46 := by kernel_rfl
  i51 := by kernel_rfl
  i53 := by kernel_rfl
  i75 := by kernel_rfl
  i76 := by kernel_rfl
  i80 := by kernel_rfl
  i85 := by kernel_rfl
  i127 := by kernel_rfl
  i143 := by kernel_rfl
  i145 := by kernel_rfl
  i167 := by kernel_rfl
  i168 := by kernel_rfl
  i171 := by kernel_rfl
  i173 := by kernel_rfl
  i175 := by kernel_rfl
  i210 := by kernel_rfl
  i212 := by kernel_rfl
  i232 := by kernel_rfl
  i233 := by kernel_rfl
  m15 := by kernel_rfl
  m16 := by kernel_rfl
  m17 := by kernel_rfl
  m18 := by kernel_rfl
  m19 := by kernel_rfl
  c0 := by kernel_rfl
  c2 := by kernel_rfl
  c3 := by kernel_rfl
  c4 := by kernel_rfl
  c5 := by kernel_rfl
  c9 := by kernel_rfl
  c20 := by kernel_rfl
  c21 := by kernel_rfl
  c37 := by kernel_rfl
  c46 := by kernel_rfl
  c51 := by kernel_rfl
  c53 := by kernel_rfl
  c75 := by kernel_rfl
  c76 := by kernel_rfl
  c80 := by kernel_rfl
  c85 := by kernel_rfl
  c127 := by kernel_rfl
  c143 := by kernel_rfl
  c145 := by kernel_rfl
  c167 := by kernel_rfl
  c168 := by kernel_rfl
  c171 := by kernel_rfl
  c173 := by kernel_rfl
  c175 := by kernel_rfl
  c210 := by kernel_rfl
  c212 := by kernel_rfl
  c213 := by kernel_rfl
  c232 := by kernel_rfl
  c233 := by kernel_rfl }
theorem Tryz.strconv_Atoi_err (s : ByteArray) (hl : s.size ≤ 18) (h : Lib.atoi s.data.toList = none) (ev : Value) (w : World) (hv : w.cell? ⟨Tryz.laysC172_ren.g 15, 0, none⟩ = some ev) (hev : ev = .nilIface ∨ ∃ te pe, ev = .iface te pe) :
    Calls Tryz.prog 236 #[.string s] w fun e w' => ∃ x, e = .returned (.tuple #[.int .i64 0, x]) ∧ Below w.heap.size w w' :=
  (Any.strconv_Atoi_err Tryz.laysC172 s hl h ev w hv hev).mono fun _ _ ⟨_, h1, _, _, h2⟩ => ⟨_, h1, h2⟩
end Go.Proofs
namespace Go.Proofs.YtfocdefchbnkpaaGreatDoor
open Go.RowKit
def Rq.bad:List UInt8:=[72,84,84,80,47,49,46,49,32,52,48,48,32,66,97,100,32,82,101,113,117,101,115,116,13,10,99,111,110,110,101,99,116,105,111,110,58,32,99,108,111,115,101,13,10,99,111,110,116,101,110,116,45,108,101,110,103,116,104,58,32,48,13,10,13,10]
def Rq.tooLarge:List UInt8:=[72,84,84,80,47,49,46,49,32,52,49,51,32,67,111,110,116,101,110,116,32,84,111,111,32,76,97,114,103,101,13,10,99,111,110,110,101,99,116,105,111,110,58,32,99,108,111,115,101,13,10,99,111,110,116,101,110,116,45,108,101,110,103,116,104,58,32,48,13,10,13,10]
def Rq.tooMuch:List UInt8:=[72,84,84,80,47,49,46,49,32,52,51,49,32,82,101,113,117,101,115,116,32,72,101,97,100,101,114,32,70,105,101,108,100,115,32,84,111,111,32,76,97,114,103,101,13,10,99,111,110,110,101,99,116,105,111,110,58,32,99,108,111,115,101,13,10,99,111,110,116,101,110,116,45,108,101,110,103,116,104,58,32,48,13,10,13,10]
def Rq.notDone:List UInt8:=[72,84,84,80,47,49,46,49,32,53,48,49,32,78,111,116,32,73,109,112,108,101,109,101,110,116,101,100,13,10,99,111,110,110,101,99,116,105,111,110,58,32,99,108,111,115,101,13,10,99,111,110,116,101,110,116,45,108,101,110,103,116,104,58,32,48,13,10,13,10]
def Rq.sTe:List UInt8:=[116,114,97,110,115,102,101,114,45,101,110,99,111,100,105,110,103]
def Rq.sCl:List UInt8:=[99,111,110,116,101,110,116,45,108,101,110,103,116,104]
def Rq.sHost:List UInt8:=[104,111,115,116]
def Rq.sVersion:List UInt8:=[72,84,84,80,47,49,46,49]
def Rq.badUnless (b:Bool):List UInt8:=if b then [] else Rq.bad
theorem kP (b:Bool)(w:World):Calls Tryz.prog 232 #[.bool b] w fun e w'=>e = .returned (.string (R.str (Rq.badUnless b)))/\w'=w:=by
 cases b
 all_goals
  go_enter Tryz.func232,Tryz.ntmps232
  go_wp2
  go_ret
  exact⟨rfl,rfl⟩
def GE (w:World):Prop:=∃ev,w.cell? ⟨Tryz.laysC172_ren.g 15,0,none⟩=some ev/\(ev = .nilIface\/∃te pe,ev = .iface te pe)
theorem GE.grown {w w':World}(h:GE w)(hg:w.grownBy w' none):GE w':=by
 obtain⟨ev,h1,h2⟩:=h
 exact⟨ev,hg.cell h1 (by simp),h2⟩
def Rq.num (l:List UInt8):Int:=R.num l
theorem Rq.num_ok {l:List UInt8}(h:Rq.isNumber l=true):Lib.atoi l=some (Rq.num l)/\0<=Rq.num l/\Rq.num l<=99999/\l.length<=5:=by
 unfold Rq.isNumber at h
 simp only[Bool.and_eq_true,decide_eq_true_eq] at h
 obtain⟨h0,h1,h2⟩:=h
 have hp:1<=l.length:=by cases l with | nil=>exact absurd rfl h0 | cons=>simp
 obtain⟨q1,q2,q3⟩:=fB l h1 hp h2
 exact⟨q1,q2,q3,h1⟩
theorem ke (l:List UInt8)(w:World)(h:l=[]\/Rq.isNumber l=true)(hE:GE w) :
  Calls Tryz.prog 177 #[.string (R.str l)] w fun e w'=>e = .returned (.int .i64 (Rq.num l))/\w.grownBy w' none:=by
 have HA:Y (Calls Tryz.prog 236 #[.string (R.str l)] w fun e w'=>(∃x,e = .returned (.tuple #[.int .i64 (Rq.num l),x]))/\w.grownBy w' none):=by
  rcases h with rfl | h
  ·obtain⟨ev,h1,h2⟩:=hE
   exact(Tryz.strconv_Atoi_err (R.str []) (by decide) (by decide) ev w h1 h2).mono fun e w' ⟨x,q1,q2⟩=>⟨⟨x,q1⟩,xD q2⟩
  ·obtain⟨q1,_,_,q4⟩:=Rq.num_ok h
   refine(Tryz.strconv_Atoi (R.str l) (Rq.num l) (by have:(R.str l).size=l.length:=R.str_size l;omega) (by rw[R.str_toList];exact q1) w).mono fun e w' ⟨q1,t,q2⟩=>⟨⟨_,q1⟩,by rw[q2];exact xk _ _ _⟩
 clear h hE
 generalize Rq.num l=n at*
 go_enter Tryz.func177,Tryz.ntmps177
 go_wp2_with fail
 refine HA.o.mono ?_
 rintro e w1 ⟨⟨x,rfl⟩,g1⟩
 have G1:=hid g1
 clear g1 HA
 go_wp2
 go_ret
 exact⟨rfl,G1.o⟩
def Rq.lengthRefusal (x:Hd)(l:List Hd):List UInt8:=if Rq.has x.1 l || !Rq.isNumber x.2 then Rq.bad else if 300<Rq.num x.2 then Rq.tooLarge else []
theorem wJ (x:Hd)(l:List Hd){w:World}{B:Nat}{v:Value}(hr:w.ownsRow B 346 2 v l.length (zb l))(hn:l.length<=1000000)(hx:x.2.length<=3000)(hE:GE w) :
  Calls Tryz.prog 357 #[.agg #[.string (R.str x.1),.string (R.str x.2)],v] w fun e w'=>e = .returned (.string (R.str (Rq.lengthRefusal x l)))/\w.grownBy w' none:=by
 obtain⟨va,vk,rfl⟩:=zP hr
 have gA:w.grownBy (w.alloc (.cells #[.string (R.str x.1),.string (R.str x.2)] 346)) none:=zJ _ _ none
 have HB:=hid (heap_alloc_new w (.cells #[.string (R.str x.1),.string (R.str x.2)] 346))
 have HH:=hid (zcG x.1 l (zO hr gA (fun k hk c=>by cases c)) hn)
 have HN:Y (∀W,Calls Tryz.prog 401 #[.string (R.str x.2)] W fun e w'=>e = .returned (.bool (Rq.isNumber x.2))/\w'=W):=fun W=>wH x.2 W (by omega)
 have HL:Y (Rq.lengthRefusal x l=if Rq.has x.1 l || !Rq.isNumber x.2 then Rq.bad else if 300<Rq.num x.2 then Rq.tooLarge else []):=rfl
 have HM:Y (Rq.isNumber x.2=true->∀W,w.grownBy W none->Calls Tryz.prog 177 #[.string (R.str x.2)] W fun e w'=>e = .returned (.int .i64 (Rq.num x.2))/\W.grownBy w' none):=fun h W hW=>ke x.2 W (Or.inr h) (hE.grown hW)
 have HG:=hid gA
 have q0:(w.alloc (.cells #[.string (R.str x.1),.string (R.str x.2)] 346)).cell? ⟨w.heap.size,0,none⟩=some (.string (R.str x.1)):=z8 HB.o
 have q1:(w.alloc (.cells #[.string (R.str x.1),.string (R.str x.2)] 346)).cell? ⟨w.heap.size,1,none⟩=some (.string (R.str x.2)):=z8 HB.o
 clear hr gA hE
 generalize Rq.has x.1 l=b1 at*
 generalize Rq.isNumber x.2=b2 at*
 go_enter Tryz.func357,Tryz.ntmps357
 go_upto_region 1 with fail
 generalize w.alloc (.cells #[.string (R.str x.1),.string (R.str x.2)] 346)=wa at*
 go_wp2_with fail
 refine HH.o.mono ?_
 rintro e w1 ⟨rfl,g1⟩
 have G1:=hid (zA HG.o g1)
 have ab:=hid (zB HB.o g1 (by simp))
 have k1:w1.cell? ⟨w.heap.size,1,none⟩=some (.string (R.str x.2)):=z8 ab.o
 clear g1 HH q0 q1 HB HG
 cases b1
 ·go_wp2_with fail
  refine(HN.o _).mono ?_
  rintro e wX ⟨rfl,aa⟩
  rw[aa]
  clear aa wX HN
  cases b2
  ·go_wp2
   go_ret
   exact⟨by rw[HL.o];rfl,G1.o⟩
  ·go_wp2_with fail
   refine(HM.o (by trivial) _ G1.o).mono ?_
   rintro e w2 ⟨rfl,g2⟩
   have G2:=hid (zA G1.o g2)
   clear g2 HM G1
   by_cases ad:300<Rq.num x.2
   ·go_wp2
    go_ret
    exact⟨by rw[HL.o,if_pos ad];rfl,G2.o⟩
   ·go_wp2
    go_ret
    exact⟨by rw[HL.o,if_neg (show ¬300<Rq.num x.2 by omega)];rfl,G2.o⟩
 ·go_wp2
  go_ret
  exact⟨by rw[HL.o];rfl,G1.o⟩
def Rq.refusal (x:Hd)(l:List Hd):List UInt8:=
 if l.length=12 then Rq.tooMuch else if x.1=Rq.sTe then Rq.notDone else if x.1=Rq.sCl then Rq.lengthRefusal x l else if x.1=Rq.sHost then Rq.badUnless (Rq.isHost x.2 && !Rq.has x.1 l) else []
theorem jd (a b:List UInt8):((R.str a).toList == b)=decide (a=b):=by
 rw[ByteArray.toList_eq,R.str_toList,Bool.eq_iff_iff];simp
theorem zfR (x:Hd)(l:List Hd){w:World}{B:Nat}{v:Value}(hr:w.ownsRow B 346 2 v l.length (zb l))(hn:l.length<=1000000)(hx:x.2.length<=3000)(hG:Glob w)(hE:GE w) :
  Calls Tryz.prog 305 #[.agg #[.string (R.str x.1),.string (R.str x.2)],v] w fun e w'=>e = .returned (.string (R.str (Rq.refusal x l)))/\w.grownBy w' none:=by
 obtain⟨va,vk,rfl⟩:=zP hr
 have gA:w.grownBy (w.alloc (.cells #[.string (R.str x.1),.string (R.str x.2)] 346)) none:=zJ _ _ none
 have HB:=hid (heap_alloc_new w (.cells #[.string (R.str x.1),.string (R.str x.2)] 346))
 have ae:=zO hr gA (fun k hk c=>by cases c)
 have HR:=hid ae
 have an:=hid (wJ x l ae hn hx (hE.grown gA))
 have al:=hid (zi4 x.2 _ (hG.grown gA) hx)
 have HF:Y (Rq.refusal x l=if l.length=12 then Rq.tooMuch else if x.1=Rq.sTe then Rq.notDone else if x.1=Rq.sCl then Rq.lengthRefusal x l else if x.1=Rq.sHost then Rq.badUnless (Rq.isHost x.2 && !Rq.has x.1 l) else []):=rfl
 have ad:Y (∀b W,Calls Tryz.prog 232 #[.bool b] W fun e w'=>e = .returned (.string (R.str (Rq.badUnless b)))/\w'=W):=kP
 have aa:=hid gA
 have q0:(w.alloc (.cells #[.string (R.str x.1),.string (R.str x.2)] 346)).cell? ⟨w.heap.size,0,none⟩=some (.string (R.str x.1)):=z8 HB.o
 have q1:(w.alloc (.cells #[.string (R.str x.1),.string (R.str x.2)] 346)).cell? ⟨w.heap.size,1,none⟩=some (.string (R.str x.2)):=z8 HB.o
 have ak:Y (∀W W',(w.alloc (.cells #[.string (R.str x.1),.string (R.str x.2)] 346)).grownBy W W'->W'=none->Calls Tryz.prog 234 #[.string (R.str x.1),.slice va l.length vk] W fun e w'=>e = .returned (.bool (Rq.has x.1 l))/\W.grownBy w' none):=fun W W' h1 h2=>by
  subst h2;exact zcG x.1 l (zO ae h1 (fun k hk c=>by cases c)) hn
 have ag:Y (∀b,decide (x.1=Rq.sTe)=b->((R.str x.1).toList == [116,114,97,110,115,102,101,114,45,101,110,99,111,100,105,110,103])=b):=fun b hb=>by rw[jd];exact hb
 have ah:Y (∀b,decide (x.1=Rq.sCl)=b->((R.str x.1).toList == [99,111,110,116,101,110,116,45,108,101,110,103,116,104])=b):=fun b hb=>by rw[jd];exact hb
 have ai:Y (∀b,decide (x.1=Rq.sHost)=b->((R.str x.1).toList == [104,111,115,116])=b):=fun b hb=>by rw[jd];exact hb
 clear hr gA hE hG ae
 go_enter Tryz.func305,Tryz.ntmps305
 go_upto_region 1 with fail
 generalize w.alloc (.cells #[.string (R.str x.1),.string (R.str x.2)] 346)=wa at*
 by_cases af:l.length=12
 ·have ao:(l.length:Int)=12:=by omega
  rw[if_pos af] at HF
  clear af
  go_wp2
  go_ret
  exact⟨by rw[HF.o];rfl,aa.o⟩
 ·have ao:¬(l.length:Int)=12:=by omega
  rw[if_neg af] at HF
  by_cases c1:x.1=Rq.sTe
  ·have d1:=ag.o true (decide_eq_true c1)
   rw[if_pos c1] at HF
   clear c1
   go_wp2
   go_ret
   exact⟨by rw[HF.o];rfl,aa.o⟩
  ·have d1:=ag.o false (decide_eq_false c1)
   rw[if_neg c1] at HF
   by_cases c2:x.1=Rq.sCl
   ·have d2:=ah.o true (decide_eq_true c2)
    rw[if_pos c2] at HF
    clear c1 c2
    go_wp2_with fail
    refine an.o.mono ?_
    rintro e w1 ⟨rfl,g1⟩
    have G1:=hid (zA aa.o g1)
    clear g1
    go_wp2
    go_ret
    exact⟨by rw[HF.o];rfl,G1.o⟩
   ·have d2:=ah.o false (decide_eq_false c2)
    rw[if_neg c2] at HF
    by_cases c3:x.1=Rq.sHost
    ·have d3:=ai.o true (decide_eq_true c3)
     rw[if_pos c3] at HF
     clear c1 c2 c3
     generalize Rq.isHost x.2=b1 at*
     generalize Rq.has x.1 l=b2 at*
     go_wp2_with fail
     refine al.o.mono ?_
     rintro e w1 ⟨rfl,g1⟩
     have G1:=hid (zA aa.o g1)
     have am:=hid (zB HB.o g1 (by simp))
     have aj:=hid (ak.o w1 none g1 rfl)
     have k0:w1.cell? ⟨w.heap.size,0,none⟩=some (.string (R.str x.1)):=z8 am.o
     clear g1 al HB ak q0 q1
     cases b1
     ·go_wp2_with fail
      refine(ad.o _ _).mono ?_
      rintro e wX ⟨rfl,ab⟩
      rw[ab]
      clear ab wX ad
      go_wp2
      go_ret
      exact⟨by rw[HF.o];rfl,G1.o⟩
     ·go_wp2_with fail
      refine aj.o.mono ?_
      rintro e w2 ⟨rfl,g2⟩
      have G2:=hid (zA G1.o g2)
      clear g2 aj
      go_wp2_with fail
      refine(ad.o _ _).mono ?_
      rintro e wX ⟨rfl,ab⟩
      rw[ab]
      clear ab wX ad
      go_wp2
      go_ret
      exact⟨by rw[HF.o];rfl,G2.o⟩
    ·have d3:=ai.o false (decide_eq_false c3)
     rw[if_neg c3] at HF
     clear c1 c2 c3
     go_wp2
     go_ret
     exact⟨by rw[HF.o];rfl,aa.o⟩
def zq8 (k i:Nat):Nat:=if i % 2=0 then k % 256 else k / 256 % 256
def L.sg (k n m:Nat):List Value:=(List.range m).map fun i=>Value.int .u8 (zq8 k (n+i):Nat)
structure Turn (w w':World) (F:Nat->Prop):Prop where
 os:w'.os=w.os
 tape:w'.tape=w.tape
 output:w'.output=w.output
 size:w.heap.size<=w'.heap.size
 block:∀k,k<w.heap.size->¬F k->w'.heap[k]?=w.heap[k]?
theorem Turn.refl (w:World)(F:Nat->Prop):Turn w w F:=⟨rfl,rfl,rfl,zZ _,fun _ _ _=>rfl⟩
theorem Turn.grown {w0 w w':World}{F:Nat->Prop}{row:Option Nat}(h:Turn w w' F)(g:w0.grownBy w row)(hF:∀k,F k->w0.heap.size<=k):w0.grownBy w' row:=
 ⟨h.os.trans g.os,h.tape.trans g.tape,h.output.trans g.output,zp g.size h.size,fun k hk hn=>(h.block k (yU hk g.size) (fun c=>by have:=hF k c;omega)).trans (g.block k hk hn)⟩
structure L.Inv (w:World) (wb B:Nat) (vl ve vm:Value) (es:List (Value×Nat×Nat)):Prop where
 ex:∃vb vk,w.heap[wb]?=some (.cells #[vl,vb,vk,ve,vm] 77 (0,0))/\w.ownsRow B 32 1 vb es.length (es.map (·.1))/\w.ownsRow B 3 1 vk es.length (es.map fun e=>.int .i64 (e.2.1:Nat))
 all:∀e∈es,w.ownsRow B 5 1 e.1 e.2.2 (L.sg e.2.1 0 e.2.2)
 low:B<=wb
 bd:∀e∈es,e.2.1<1000000000000/\e.2.2<1000000000000
theorem zeL:(Tryz.prog.info? 3).map (fun i=>(i.zero,i.size,i.bytes))=some (some (.int .i64 0),1,8):=by kernel_rfl
end Go.Proofs.YtfocdefchbnkpaaGreatDoor
