/- Headers, values, paths and targets, as the program's reader reads them. -/
import Derived.Test.YtfocdefchbnkpaaGreatDoorAli
import Derived.Test.YtfocdefchbnkpaaGreatDoorRefJ
import Derived.Test.YtfocdefchbnkpaaGreatDoorProG
import Derived.Test.YtfocdefchbnkpaaGreatDoorProD0
set_option maxRecDepth 100000
set_option maxHeartbeats 20000000
namespace Go.Proofs.YtfocdefchbnkpaaGreatDoor
open Go.RowKit
theorem zb4 (l:List UInt8)(h:(zr l).2=3):(zr l).1<=26:=by
 unfold zr at h ⊢
 match l with
 | []=>simp at h
 | c :: r=>
  simp only at h ⊢
  split
  ·rename_i h1;rw[if_pos h1] at h;simp at h
  ·rename_i h1
   rw[if_neg h1] at h
   split
   ·rename_i h2
    rw[if_pos h2] at h
    unfold xH at h;split at h <;> simp at h
   ·rename_i h2
    rw[if_neg h2] at h
    split
    ·rename_i h3
     rw[if_pos h3] at h
     unfold xM at h ⊢
     split
     ·simp
     ·rename_i h4
      unfold yZ at h4
      simp at h4 ⊢
      omega
    ·rename_i h3
     rw[if_neg h3] at h
     split at h <;> simp at h
theorem zgW {l:List UInt8}{st:P.St}(ht:∃p,st.tok=zU l p):(zg l st).1.length<=24:=by
 unfold zg
 simp only
 split
 ·simp
 ·rename_i hb
  have hk:st.tok.k=3:=by
   apply Classical.byContradiction;intro hk
   apply hb
   unfold zy
   rw[if_neg (by intro c;exact hk (by simpa using c.1))]
  obtain⟨p,e⟩:=ht
  have aa:st.tok.raw.length<=26:=by
   rw[e] at hk ⊢
   unfold zU at hk ⊢
   simp only at hk ⊢
   have:=zb4 _ hk
   rw[List.length_take];omega
  rw[List.length_take,List.length_drop];omega
theorem PInv.slen {w:World}{rb:Nat}{s:ByteArray}{st:P.St}(h:PInv w rb s st):(R.str (zg s.data.toList st).1).size<=24:=by
 rw[R.str_size];apply zgW;obtain⟨p,_,e⟩:=h.tok;exact⟨p,e⟩
def Glob (w:World):Prop:=∃m,w.cell? ⟨0,0,none⟩=some (.int .i64 m)
theorem Glob.keep {w w':World}{row:Option Nat}(h:Glob w)(hg:w.grownBy w' row)(hr:row≠some 0):Glob w':=by
 obtain⟨m,h⟩:=h
 exact⟨m,hg.cell h (by simpa using fun e=>hr e.symm)⟩
theorem fo {w:World}{rb:Nat}{s:ByteArray}{st:P.St}(h:PInv w rb s st) :
  Calls Tryz.prog 331 #[.pointer (some ⟨rb,0,none⟩)] w fun e w'=>e = .returned (.tuple #[.string (R.str (qB s.data.toList st).1),.int .i64 st.tok.at_])/\PInv w' rb s (qB s.data.toList st).2/\w.grownBy w' (some rb):=by
 have HP:Y (qB s.data.toList st=(R.lower (zg s.data.toList st).1,zX (zg s.data.toList st).2 (!R.header (zg s.data.toList st).1 true) 4 st.tok.at_)):=rfl
 have H0:Y _:=h
 have ah:=zE h.rd
 have HL:Y ((R.str (zg s.data.toList st).1).size<=1000000000000):=by have:=h.slen;show _<=_;omega
 clear h
 go_enter Tryz.func331,Tryz.ntmps331
 have C0:Y (w.grownBy w (some rb)):=zM _ _
 go_wp2_with fail
 refine(yd H0.o).mono ?_
 rintro e w1 ⟨rfl,I1,ad⟩
 have J1:Y _:=I1
 have b1:=zE J1.o.rd
 have s1:w.heap.size+0<=w1.heap.size:=by have h:=ad.size;simpa using h
 have G1:Y (w.grownBy w1 (some rb)):=ad
 have C1:=J (zA C0.o G1.o)
 have z1:=C1.o.size
 clear ad I1
 generalize zg s.data.toList st=q at*
 obtain⟨aj,ai⟩:=q
 simp only at J1 HP HL ⊢
 go_wp2_with fail
 refine(zcC _ _ HL.o).mono ?_
 rintro e w2 ⟨rfl,aa⟩
 have ae:=zk aa (some rb)
 have J2:Y _:=(J1.o).keep aa
 have b2:=zE J2.o.rd
 have s2:w1.heap.size+0<=w2.heap.size:=by have h:=ae.size;simpa using h
 have G2:Y (w1.grownBy w2 (some rb)):=ae
 have C2:=J (zA C1.o G2.o)
 have z2:=C2.o.size
 clear ae aa
 rw[R.str_toList]
 go_wp2_with fail
 refine(xV J2.o _ _ _).mono ?_
 rintro e w3 ⟨rfl,I3,af⟩
 have J3:Y _:=I3
 have b3:=zE J3.o.rd
 have s3:w2.heap.size+0<=w3.heap.size:=by have h:=af.size;simpa using h
 have G3:Y (w2.grownBy w3 (some rb)):=af
 have C3:=J (zA C2.o G3.o)
 have z3:=C3.o.size
 clear af I3
 go_wp2_with fail
 refine(jc _ _ HL.o).mono ?_
 rintro e w4 ⟨rfl,ab⟩
 have ag:=zk ab (some rb)
 have J4:Y _:=(J3.o).keep ab
 have b4:=zE J4.o.rd
 have s4:w3.heap.size+0<=w4.heap.size:=by have h:=ag.size;simpa using h
 have G4:Y (w3.grownBy w4 (some rb)):=ag
 have C4:=J (zA C3.o G4.o)
 have z4:=C4.o.size
 clear ag ab
 rw[R.str_toList]
 go_wp2
 go_ret2
 exact⟨by rw[HP.o];rfl,by rw[HP.o];exact J4.o,C4.o⟩
theorem zaQ {w:World}{rb:Nat}{s:ByteArray}{st:P.St}(h:PInv w rb s st) :
  Calls Tryz.prog 332 #[.pointer (some ⟨rb,0,none⟩)] w fun e w'=>e = .returned (.string (R.str (qg s.data.toList st).1))/\PInv w' rb s (qg s.data.toList st).2/\w.grownBy w' (some rb):=by
 have HP:Y (qg s.data.toList st=((zg s.data.toList (zH s.data.toList st [61])).1,zX (zg s.data.toList (zH s.data.toList st [61])).2 (!R.value (zg s.data.toList (zH s.data.toList st [61])).1) 4 (zH s.data.toList st [61]).tok.at_)):=rfl
 have H0:Y _:=h
 have ag:=zE h.rd
 clear h
 go_enter Tryz.func332,Tryz.ntmps332
 have C0:Y (w.grownBy w (some rb)):=zM _ _
 go_wp2_with fail
 refine(xK H0.o _).mono ?_
 rintro e w1 ⟨rfl,I1,ab⟩
 have J1:Y _:=I1
 have b1:=zE J1.o.rd
 have s1:w.heap.size+0<=w1.heap.size:=by have h:=ab.size;simpa using h
 have G1:Y (w.grownBy w1 (some rb)):=ab
 have C1:=J (zA C0.o G1.o)
 have z1:=C1.o.size
 clear ab I1
 rw[show(⟨#[61]⟩:ByteArray).data.toList=[61] from rfl] at J1
 generalize zH s.data.toList st [61]=st0 at*
 have HL:Y ((R.str (zg s.data.toList st0).1).size<=maxLen):=by have:=J1.o.slen;show _<=_;unfold maxLen;omega
 go_wp2_with fail
 refine(yd J1.o).mono ?_
 rintro e w2 ⟨rfl,I2,ad⟩
 have J2:Y _:=I2
 have b2:=zE J2.o.rd
 have s2:w1.heap.size+0<=w2.heap.size:=by have h:=ad.size;simpa using h
 have G2:Y (w1.grownBy w2 (some rb)):=ad
 have C2:=J (zA C1.o G2.o)
 have z2:=C2.o.size
 clear ad I2
 generalize zg s.data.toList st0=q at*
 obtain⟨ai,ah⟩:=q
 simp only at J2 HP HL ⊢
 go_wp2_with fail
 refine(zfB _ _ HL.o).mono ?_
 rintro e w3 ⟨rfl,aa⟩
 have ae:=zk aa (some rb)
 have J3:Y _:=(J2.o).keep aa
 have b3:=zE J3.o.rd
 have s3:w2.heap.size+0<=w3.heap.size:=by have h:=ae.size;simpa using h
 have G3:Y (w2.grownBy w3 (some rb)):=ae
 have C3:=J (zA C2.o G3.o)
 have z3:=C3.o.size
 clear ae aa
 rw[R.str_toList]
 go_wp2_with fail
 refine(xV J3.o _ _ _).mono ?_
 rintro e w4 ⟨rfl,I4,af⟩
 have J4:Y _:=I4
 have b4:=zE J4.o.rd
 have s4:w3.heap.size+0<=w4.heap.size:=by have h:=af.size;simpa using h
 have G4:Y (w3.grownBy w4 (some rb)):=af
 have C4:=J (zA C3.o G4.o)
 have z4:=C4.o.size
 clear af I4
 go_wp2
 go_ret
 exact⟨by rw[HP.o];rfl,by rw[HP.o];exact J4.o,C4.o⟩
theorem zfO {w:World}{rb:Nat}{s:ByteArray}{st:P.St}(h:PInv w rb s st)(wd:ByteArray) :
  Calls Tryz.prog 271 #[.pointer (some ⟨rb,0,none⟩),.string wd] w fun e w'=>e = .returned (.string (R.str (xL s.data.toList st wd.data.toList).1))/\PInv w' rb s (xL s.data.toList st wd.data.toList).2/\w.grownBy w' (some rb):=by
 have HP:Y (xL s.data.toList st wd.data.toList=((zg s.data.toList (zH s.data.toList st wd.data.toList)).1,zH s.data.toList (zX (zg s.data.toList (zH s.data.toList st wd.data.toList)).2 (!R.path (zg s.data.toList (zH s.data.toList st wd.data.toList)).1) 4 (zH s.data.toList st wd.data.toList).tok.at_) [59])):=rfl
 have H0:Y _:=h
 have ag:=zE h.rd
 clear h
 go_enter Tryz.func271,Tryz.ntmps271
 have C0:Y (w.grownBy w (some rb)):=zM _ _
 go_wp2_with fail
 refine(xK H0.o _).mono ?_
 rintro e w1 ⟨rfl,I1,aa⟩
 have J1:Y _:=I1
 have b1:=zE J1.o.rd
 have s1:w.heap.size+0<=w1.heap.size:=by have h:=aa.size;simpa using h
 have G1:Y (w.grownBy w1 (some rb)):=aa
 have C1:=J (zA C0.o G1.o)
 have z1:=C1.o.size
 clear aa I1
 generalize zH s.data.toList st wd.data.toList=st0 at*
 have HL:Y ((R.str (zg s.data.toList st0).1).size<=maxLen):=by have:=J1.o.slen;show _<=_;unfold maxLen;omega
 go_wp2_with fail
 refine(yd J1.o).mono ?_
 rintro e w2 ⟨rfl,I2,ab⟩
 have J2:Y _:=I2
 have b2:=zE J2.o.rd
 have s2:w1.heap.size+0<=w2.heap.size:=by have h:=ab.size;simpa using h
 have G2:Y (w1.grownBy w2 (some rb)):=ab
 have C2:=J (zA C1.o G2.o)
 have z2:=C2.o.size
 clear ab I2
 generalize zg s.data.toList st0=q at*
 obtain⟨ai,ah⟩:=q
 simp only at J2 HP HL ⊢
 go_wp2_with fail
 refine(zhW _ _ HL.o).mono ?_
 rintro e wX ⟨rfl,af⟩
 rw[af]
 clear af wX
 rw[R.str_toList]
 go_wp2_with fail
 refine(xV J2.o _ _ _).mono ?_
 rintro e w3 ⟨rfl,I3,ad⟩
 have J3:Y _:=I3
 have b3:=zE J3.o.rd
 have s3:w2.heap.size+0<=w3.heap.size:=by have h:=ad.size;simpa using h
 have G3:Y (w2.grownBy w3 (some rb)):=ad
 have C3:=J (zA C2.o G3.o)
 have z3:=C3.o.size
 clear ad I3
 go_wp2_with fail
 refine(xK J3.o _).mono ?_
 rintro e w4 ⟨rfl,I4,ae⟩
 have J4:Y _:=I4
 have b4:=zE J4.o.rd
 have s4:w3.heap.size+0<=w4.heap.size:=by have h:=ae.size;simpa using h
 have G4:Y (w3.grownBy w4 (some rb)):=ae
 have C4:=J (zA C3.o G4.o)
 have z4:=C4.o.size
 clear ae I4
 go_wp2
 go_ret
 exact⟨by rw[HP.o];rfl,by rw[HP.o];exact J4.o,C4.o⟩
theorem fw {w:World}{rb:Nat}{s:ByteArray}{st:P.St}(h:PInv w rb s st)(n:Nat) :
  Calls Tryz.prog 333 #[.pointer (some ⟨rb,0,none⟩),.int .i64 n] w fun e w'=>e = .returned (.agg #[.string (R.str (zR s.data.toList st n).1.1),.int .i64 (zR s.data.toList st n).1.2])/\PInv w' rb s (zR s.data.toList st n).2/\w.grownBy w' (some rb)/\0<=(zR s.data.toList st n).1.2/\(zR s.data.toList st n).1.2<=99999:=by
 have HP:Y (zR s.data.toList st n=(((qz s.data.toList st n).1,(qU s.data.toList (qz s.data.toList st n).2).1),
 zX (qU s.data.toList (qz s.data.toList st n).2).2 (decide (1000<(qU s.data.toList (qz s.data.toList st n).2).1)) 4 (qz s.data.toList st n).2.tok.at_)):=rfl
 have HA:Y (qz s.data.toList st n=((zg s.data.toList (zf st n 4)).1,zX (zg s.data.toList (zf st n 4)).2 (!R.upstream (zg s.data.toList (zf st n 4)).1) 4 (zf st n 4).tok.at_)):=rfl
 have H0:Y _:=h
 have aw:=zE h.rd
 clear h
 go_enter Tryz.func333,Tryz.ntmps333
 have C0:Y (w.grownBy w (some rb)):=zM _ _
 go_wp2_with fail
 refine(yx (H0.o.keep (zJ _ _ _)) _ _).mono ?_
 rintro e w1 ⟨rfl,I1,ab⟩
 have J1:Y _:=I1
 have b1:=zE J1.o.rd
 have s1:w.heap.size+1<=w1.heap.size:=by have h:=ab.size;simpa using h
 have G1:Y (w.grownBy w1 (some rb)):=(zA (zJ _ _ _) ab)
 have C1:=J (zA C0.o G1.o)
 have z1:=C1.o.size
 have an:Y (w1.heap[w.heap.size]?=some (.cells #[.string ⟨#[]⟩,.int .i64 0] 285)):=xc ab (by simp;omega)
 clear ab I1
 generalize zf st n 4=st0 at*
 have HL:Y ((R.str (zg s.data.toList st0).1).size<=maxLen):=by have:=J1.o.slen;show _<=_;unfold maxLen;omega
 go_wp2_with fail
 refine(yd J1.o).mono ?_
 rintro e w2 ⟨rfl,I2,ad⟩
 have J2:Y _:=I2
 have b2:=zE J2.o.rd
 have s2:w1.heap.size+0<=w2.heap.size:=by have h:=ad.size;simpa using h
 have G2:Y (w1.grownBy w2 (some rb)):=ad
 have C2:=J (zA C1.o G2.o)
 have z2:=C2.o.size
 have ao:=J (zB an.o G2.o (by simp;omega))
 clear ad I2
 generalize zg s.data.toList st0=q at*
 obtain⟨ah,av⟩:=q
 simp only at J2 HA HL ⊢
 go_wp2_with fail
 refine(fj _ _ HL.o).mono ?_
 rintro e wX ⟨rfl,al⟩
 rw[al]
 clear al wX
 rw[R.str_toList]
 go_wp2_with fail
 refine(xV J2.o _ _ _).mono ?_
 rintro e w3 ⟨rfl,I3,ae⟩
 have J3:Y _:=I3
 have b3:=zE J3.o.rd
 have s3:w2.heap.size+0<=w3.heap.size:=by have h:=ae.size;simpa using h
 have G3:Y (w2.grownBy w3 (some rb)):=ae
 have C3:=J (zA C2.o G3.o)
 have z3:=C3.o.size
 have ap:=J (zB ao.o G3.o (by simp;omega))
 clear ae I3
 rw[HA.o] at HP
 simp only at HP
 generalize zX av (!R.upstream ah) 4 st0.tok.at_=st2 at*
 go_wp2_with fail
 refine(kB J3.o).mono ?_
 rintro e w4 ⟨rfl,I4,af,ai,aj⟩
 have J4:Y _:=I4
 have b4:=zE J4.o.rd
 have s4:w3.heap.size+0<=w4.heap.size:=by have h:=af.size;simpa using h
 have G4:Y (w3.grownBy w4 (some rb)):=af
 have C4:=J (zA C3.o G4.o)
 have z4:=C4.o.size
 have aq:=J (zB ap.o G4.o (by simp;omega))
 clear af I4
 generalize qU s.data.toList st2=q at*
 obtain⟨am,aA⟩:=q
 simp only at J4 HP ai aj ⊢
 go_wp2_with fail
 refine(xV J4.o _ _ _).mono ?_
 rintro e w5 ⟨rfl,I5,ag⟩
 have J5:Y _:=I5
 have b5:=zE J5.o.rd
 have s5:w4.heap.size+0<=w5.heap.size:=by have h:=ag.size;simpa using h
 have G5:Y (w4.grownBy w5 (some rb)):=ag
 have C5:=J (zA C4.o G5.o)
 have z5:=C5.o.size
 have aa:=J (zB aq.o G5.o (by simp;omega))
 clear ag I5
 have az:=zE aa.o
 have ar:=zqW aa.o
 have ax:=zrB 0 aa.o
 have au:=zqX aa.o
 have ay:=zrB 1 aa.o
 go_wp2
 have ak:=zA (zD w5 w.heap.size 0 (.string (R.str ah))) (zD _ w.heap.size 1 (.int .i64 am))
 exact bodyPost_ret (v:=.agg #[.string (R.str ah),.int .i64 am]) (by simp[results,Tryz.results333,go_sem,ar,au]) rfl ⟨by rw[HP.o],by rw[HP.o];exact J5.o.other ak (by omega),zY C5.o ak (zZ _),by rw[HP.o];exact ai,by rw[HP.o];exact aj⟩
def P.Mt.cells (m:P.Mt):List Value:=[.string (R.str m.name),.bool m.ask,.string (R.str m.val)]
theorem zl0 {w:World}{rb:Nat}{s:ByteArray}{st:P.St}(h:PInv w rb s st)(n:Nat) :
  Calls Tryz.prog 272 #[.pointer (some ⟨rb,0,none⟩),.int .i64 n] w fun e w'=>e = .returned (.agg (qT s.data.toList st n).1.cells.toArray)/\PInv w' rb s (qT s.data.toList st n).2/\w.grownBy w' (some rb):=by
 have HP:Y (qT s.data.toList st n=(⟨(xz s.data.toList st n).1,zu (xz s.data.toList st n).2 [61],(j2 s.data.toList (xz s.data.toList st n).2).1⟩,zH s.data.toList (j2 s.data.toList (xz s.data.toList st n).2).2 [59])):=rfl
 have HA:Y (xz s.data.toList st n=qB s.data.toList (zH s.data.toList (zf st n 3) qA)):=rfl
 have H0:Y _:=h
 have a8:=zE h.rd
 clear h
 go_enter Tryz.func272,Tryz.ntmps272
 have C0:Y (w.grownBy w (some rb)):=zM _ _
 go_wp2_with fail
 refine(yx (H0.o.keep (zJ _ _ _)) _ _).mono ?_
 rintro e w1 ⟨rfl,I1,ak⟩
 have J1:Y _:=I1
 have b1:=zE J1.o.rd
 have s1:w.heap.size+1<=w1.heap.size:=by have h:=ak.size;simpa using h
 have G1:Y (w.grownBy w1 (some rb)):=(zA (zJ _ _ _) ak)
 have C1:=J (zA C0.o G1.o)
 have z1:=C1.o.size
 have aT:Y (w1.heap[w.heap.size]?=some (.cells #[.string ⟨#[]⟩,.bool false,.string ⟨#[]⟩] 276)):=xc ak (by simp;omega)
 clear ak I1
 go_wp2_with fail
 refine(xK J1.o _).mono ?_
 rintro e w2 ⟨rfl,I2,ar⟩
 have J2:Y _:=I2
 have b2:=zE J2.o.rd
 have s2:w1.heap.size+0<=w2.heap.size:=by have h:=ar.size;simpa using h
 have G2:Y (w1.grownBy w2 (some rb)):=ar
 have C2:=J (zA C1.o G2.o)
 have z2:=C2.o.size
 have aU:=J (zB aT.o G2.o (by simp;omega))
 clear ar I2
 rw[show(⟨#[104,101,97,100,101,114]⟩:ByteArray).data.toList=qA from rfl] at J2
 go_wp2_with fail
 refine(fo J2.o).mono ?_
 rintro e w3 ⟨rfl,I3,au⟩
 have J3:Y _:=I3
 have b3:=zE J3.o.rd
 have s3:w2.heap.size+0<=w3.heap.size:=by have h:=au.size;simpa using h
 have G3:Y (w2.grownBy w3 (some rb)):=au
 have C3:=J (zA C2.o G3.o)
 have z3:=C3.o.size
 have aV:=J (zB aU.o G3.o (by simp;omega))
 clear au I3
 rw[<-HA.o] at J3
 rw[<-HA.o]
 clear HA
 generalize xz s.data.toList st n=q at*
 obtain⟨nm,ad⟩:=q
 simp only at J3 HP ⊢
 go_wp2_with fail
 refine(yn (J3.o.keep (zJ _ _ _)) _).mono ?_
 rintro e w4 ⟨rfl,aq⟩
 have al:=zk aq (some rb)
 have J4:Y _:=((J3.o.keep (zJ _ _ _))).keep aq
 have b4:=zE J4.o.rd
 have s4:w3.heap.size+1<=w4.heap.size:=by have h:=al.size;simpa using h
 have G4:Y (w3.grownBy w4 (some rb)):=(zA (zJ _ _ _) al)
 have C4:=J (zA C3.o G4.o)
 have z4:=C4.o.size
 have aL:=J (zB aV.o G4.o (by simp;omega))
 have ab:Y (w4.heap[w3.heap.size]?=some (.cells #[.string (R.str nm),.bool false,.string ⟨#[]⟩] 276)):=xc al (by simp;omega)
 clear al aq
 rw[show(⟨#[61]⟩:ByteArray).data.toList=[61] from rfl]
 have HB:Y (j2 s.data.toList ad=if zu ad [61] then qg s.data.toList ad else ([],ad)):=rfl
 generalize j2 s.data.toList ad=pb at*
 obtain⟨vl,aM⟩:=pb
 simp only at HP
 have bj:=zE ab.o
 have bd:=zqY ab.o
 have bg:=zrB 0 ab.o
 have be:=zqZ ab.o
 have bh:=zrB 1 ab.o
 have bf:=zr0 ab.o
 have bi:=zrB 2 ab.o
 cases hask:zu ad [61]
 ·rw[hask] at HB
  simp only[xO,if_false] at HB
  have HV:Y (vl=[]):=(Prod.mk.inj HB.o).1
  have HS:Y (aM=ad):=(Prod.mk.inj HB.o).2
  rw[HV.o,HS.o] at HP
  go_wp2_with fail
  refine(xK J4.o _).mono ?_
  rintro e aB ⟨rfl,aG,av⟩
  have aJ:Y _:=aG
  have a7:=zE aJ.o.rd
  have br:w4.heap.size+0<=aB.heap.size:=by have h:=av.size;simpa using h
  have am:Y (w4.grownBy aB (some rb)):=av
  have aD:=J (zA C4.o am.o)
  have bz:=aD.o.size
  have af:=J (zB aL.o am.o (by simp;omega))
  have ai:=J (zB ab.o am.o (by simp;omega))
  clear av aG
  have a2:=zE ai.o
  have aZ:=zqY ai.o
  have a0:=zqZ ai.o
  have a1:=zr0 ai.o
  have a6:=zE af.o
  have ay:=zqY af.o
  have a3:=zrB 0 af.o
  have az:=zqZ af.o
  have a4:=zrB 1 af.o
  have aA:=zr0 af.o
  have a5:=zrB 2 af.o
  go_wp2
  have ah:=zA (zA (zD aB w.heap.size 0 (.string (R.str nm))) (zD _ w.heap.size 1 (.bool false))) (zD _ w.heap.size 2 (.string ⟨#[]⟩))
  exact bodyPost_ret (v:=.agg #[.string (R.str nm),.bool false,.string ⟨#[]⟩]) (by simp[results,Tryz.results272,go_sem,ay,az,aA]) rfl ⟨by rw[HP.o,hask];rfl,by rw[HP.o];exact aJ.o.other ah (by omega),zY aD.o ah (zZ _)⟩
 ·rw[hask] at HB
  simp only[if_true] at HB
  have HV:Y ((qg s.data.toList ad).1=vl):=by rw[<-HB.o];rfl
  have HS:Y ((qg s.data.toList ad).2=aM):=by rw[<-HB.o];rfl
  go_wp2_with fail
  have aP:Y _:=J4.o.other (zD w4 w3.heap.size 1 (.bool true)) (by omega)
  have aN:=J (zY C4.o (zD w4 w3.heap.size 1 (.bool true)) (by omega))
  have aW:=J (zB aL.o (zD w4 w3.heap.size 1 (.bool true)) (by simp;omega))
  have aR:Y ((World.setCell w4 ⟨w3.heap.size,1,none⟩ (.bool true)).heap[w3.heap.size]?=some (.cells #[.string (R.str nm),.bool true,.string ⟨#[]⟩] 276)):=zF ab.o (.bool true)
  have bs:w4.heap.size<=(World.setCell w4 ⟨w3.heap.size,1,none⟩ (.bool true)).heap.size:=by simp[World.setCell]
  have bw:(World.setCell w4 ⟨w3.heap.size,1,none⟩ (.bool true)).heap.size<=w4.heap.size:=by simp[World.setCell]
  generalize(World.setCell w4 ⟨w3.heap.size,1,none⟩ (.bool true))=wy1 at*
  have a9:rb<wy1.heap.size:=by omega
  refine(zaQ aP.o).mono ?_
  rintro e aa ⟨rfl,aH,aw⟩
  have ap:Y _:=aH
  have ba:=zE ap.o.rd
  have bt:wy1.heap.size+0<=aa.heap.size:=by have h:=aw.size;simpa using h
  have an:Y (wy1.grownBy aa (some rb)):=aw
  have aE:=J (zA aN.o an.o)
  have bA:=aE.o.size
  have aX:=J (zB aW.o an.o (by simp;omega))
  have ae:=J (zB aR.o an.o (by simp;omega))
  clear aw aH
  rw[HS.o] at ap
  rw[HV.o]
  have bq:=zE ae.o
  have bk:=zqY ae.o
  have bn:=zrB 0 ae.o
  have bl:=zqZ ae.o
  have bo:=zrB 1 ae.o
  have bm:=zr0 ae.o
  have bp:=zrB 2 ae.o
  go_wp2_with fail
  have aQ:Y _:=ap.o.other (zD aa w3.heap.size 2 (.string (R.str vl))) (by omega)
  have aO:=J (zY aE.o (zD aa w3.heap.size 2 (.string (R.str vl))) (by omega))
  have aY:=J (zB aX.o (zD aa w3.heap.size 2 (.string (R.str vl))) (by simp;omega))
  have aS:Y ((World.setCell aa ⟨w3.heap.size,2,none⟩ (.string (R.str vl))).heap[w3.heap.size]?=some (.cells #[.string (R.str nm),.bool true,.string (R.str vl)] 276)):=zF ae.o (.string (R.str vl))
  have bu:aa.heap.size<=(World.setCell aa ⟨w3.heap.size,2,none⟩ (.string (R.str vl))).heap.size:=by simp[World.setCell]
  have bx:(World.setCell aa ⟨w3.heap.size,2,none⟩ (.string (R.str vl))).heap.size<=aa.heap.size:=by simp[World.setCell]
  generalize(World.setCell aa ⟨w3.heap.size,2,none⟩ (.string (R.str vl)))=wy3 at*
  have bb:rb<wy3.heap.size:=by omega
  refine(xK aQ.o _).mono ?_
  rintro e aC ⟨rfl,aI,ax⟩
  have aK:Y _:=aI
  have bc:=zE aK.o.rd
  have bv:wy3.heap.size+0<=aC.heap.size:=by have h:=ax.size;simpa using h
  have ao:Y (wy3.grownBy aC (some rb)):=ax
  have aF:=J (zA aO.o ao.o)
  have bB:=aF.o.size
  have ag:=J (zB aY.o ao.o (by simp;omega))
  have aj:=J (zB aS.o ao.o (by simp;omega))
  clear ax aI
  have a2:=zE aj.o
  have aZ:=zqY aj.o
  have a0:=zqZ aj.o
  have a1:=zr0 aj.o
  have a6:=zE ag.o
  have ay:=zqY ag.o
  have a3:=zrB 0 ag.o
  have az:=zqZ ag.o
  have a4:=zrB 1 ag.o
  have aA:=zr0 ag.o
  have a5:=zrB 2 ag.o
  go_wp2
  have ah:=zA (zA (zD aC w.heap.size 0 (.string (R.str nm))) (zD _ w.heap.size 1 (.bool true))) (zD _ w.heap.size 2 (.string (R.str vl)))
  exact bodyPost_ret (v:=.agg #[.string (R.str nm),.bool true,.string (R.str vl)]) (by simp[results,Tryz.results272,go_sem,ay,az,aA]) rfl ⟨by rw[HP.o,hask];rfl,by rw[HP.o];exact aK.o.other ah (by omega),zY aF.o ah (zZ _)⟩
theorem zcT (b:Nat)(hd:ByteArray)(y:Value)(nm:ByteArray)(w:World)(hc:w.cell? ⟨b,0,none⟩=some (.string hd)) :
  Calls Tryz.prog 382 #[.agg #[.string nm,y],.pointer (some ⟨b,0,none⟩)] w fun e w'=>e = .returned (.bool (nm.toList == hd.toList))/\w.grownBy w' none:=by
 have hb:=World.block_lt_of_cell? w _ hc
 go_enter Tryz.func382,Tryz.ntmps382
 go_wp2
 go_ret
 exact⟨rfl,zJ _ _ _⟩
theorem tZ (b:Nat)(hd:ByteArray)(y:Value)(nm:ByteArray)(w:World)(hc:w.cell? ⟨b,0,none⟩=some (.string hd)) :
  Calls Tryz.prog 267 #[.agg #[.string nm,y],.pointer (some ⟨b,0,none⟩)] w fun e w'=>e = .returned (.bool (nm.toList == hd.toList))/\w.grownBy w' none:=by
 have hb:=World.block_lt_of_cell? w _ hc
 go_enter Tryz.func267,Tryz.ntmps267
 go_wp2
 go_ret
 exact⟨rfl,zJ _ _ _⟩
theorem td (b:Nat)(n m:Int)(y1 y2 y3 y4 y5 y6:Value)(w:World)(hc:w.cell? ⟨b,0,none⟩=some (.int .i64 n)) :
  Calls Tryz.prog 328 #[.agg #[.int .i64 m,y1,y2,y3,y4,y5,y6],.pointer (some ⟨b,0,none⟩)] w fun e w'=>e = .returned (.bool (m == n))/\w.grownBy w' none:=by
 have hb:=World.block_lt_of_cell? w _ hc
 go_enter Tryz.func328,Tryz.ntmps328
 go_wp2
 go_ret
 exact⟨rfl,zJ _ _ _⟩
def firstAt (p:Nat->Bool):Nat->Nat->Int
 | 0,_=>-1
 | n+1,k=>if p k then k else firstAt p n (k+1)
theorem js (p:Nat->Bool)(l:List Bool):∀(n k:Nat),(∀j,j<n->l[j]?=some (p (k+j)))->l.length=n->decide (0<=firstAt p n k)=l.any id:=by
 induction l with
 | nil=>intro n k _ hl;simp at hl;subst hl;rfl
 | cons a l ih=>
  intro n k h hl
  match n,hl with
  | n+1,hl=>
   have h0:=h 0 (by omega)
   simp at h0
   rw[firstAt,List.any_cons]
   subst h0
   cases hp:p k
   ·simp only[xO,if_false,id,Bool.false_or]
    exact ih n (k+1) (fun j hj=>by have:=h (j+1) (by omega);rw[List.getElem?_cons_succ] at this;rw[this];congr 2;omega) (by simpa using hl)
   ·simp only[if_true,id,Bool.true_or];exact decide_eq_true (Int.natCast_nonneg _)
theorem wC (b:Nat)(hd:ByteArray)(w:World)(g n c:Nat)(aa:Nat->ByteArray)(y1:Nat->Value)(hn:n<=2000000000000)(hc:w.cell? ⟨b,0,none⟩=some (.string hd))
  (h0:∀k,k<n->w.cell? ⟨g,k*2,none⟩=some (.string (aa k))) (g1:∀k,k<n->w.cell? ⟨g,k*2+1,none⟩=some (y1 k)) :
  Calls Tryz.prog 413 #[.slice (some ⟨g,0,none⟩) n c,.func (.func 382) #[] #[.pointer (some ⟨b,0,none⟩)]] w fun e w'=>e = .returned (.int .i64 (firstAt (fun k=>(aa k).toList == hd.toList) n 0))/\w.grownBy w' none:=by
 have H0:Y _:=h0
 have G1:Y _:=g1
 have HC:Y _:=hc
 clear h0 g1 hc
 go_enter Tryz.func413,Tryz.ntmps413
 go_wp2
 go_loopw [8] (fun iv wr=>∃k:Nat,k<=n/\iv = .int .i64 k/\Y (firstAt (fun k=>(aa k).toList == hd.toList) n 0=firstAt (fun k=>(aa k).toList == hd.toList) (n - k) k)/\Y (w.grownBy wr none)) (fun iv _=>n - (intOf iv).toNat)
 case atStart=>exact⟨0,zl _,rfl,rfl,zM _ _⟩
 case round=>
  obtain⟨k,hk,rfl,HF,HG⟩:=hrel
  by_cases ae:k<n
  ·have c0:=HG.o.cell (H0.o k ae) (by simp)
   have c1:=HG.o.cell (G1.o k ae) (by simp)
   have ab:Y (firstAt (fun k=>(aa k).toList == hd.toList) n 0=if ((aa k).toList == hd.toList)=true then (k:Int) else firstAt (fun k=>(aa k).toList == hd.toList) (n - (k+1)) (k+1)):=by
    show _=_
    rw[HF.o,show n - k=(n - (k+1))+1 by omega,firstAt]
   have HS:Y _:=fun(w':World) (h:wr.grownBy w' none)=>zcT b hd (y1 k) (aa k) w' (h.cell (HG.o.cell HC.o (by simp)) (by simp))
   clear HF
   cases hb:(aa k).toList == hd.toList
   ·rw[hb] at ab HS
    simp only[xO,if_false] at ab
    clear hb
    go_wp2_with fail
    refine(HS.o _ (zM _ _)).mono ?_
    rintro e w1 ⟨rfl,hg⟩
    have ad:Y _:=zA HG.o hg
    clear hg
    go_wp2
    exact⟨⟨k+1,by omega,by go_num,ab,ad⟩,by simp[intOf];omega⟩
   ·rw[hb] at ab HS
    simp only[if_true] at ab
    clear hb
    go_wp2_with fail
    refine(HS.o _ (zM _ _)).mono ?_
    rintro e w1 ⟨rfl,hg⟩
    have ad:Y _:=zA HG.o hg
    clear hg
    go_wp2
    go_ret
    exact⟨by rw[ab.o];rfl,ad.o⟩
  ·have af:k=n:=by omega
   subst af
   rw[Nat.sub_self,firstAt] at HF
   go_wp2
   go_ret
   exact⟨by rw[HF.o];rfl,HG.o⟩
theorem vx (b:Nat)(hd:ByteArray)(w:World)(v:Value)(l:List (ByteArray))(aa:List (List Value))(hv:w.ownsRow 0 280 2 v l.length aa.flatten)(hn:l.length<=2000000000000)(hc:w.cell? ⟨b,0,none⟩=some (.string hd))
  (h0:∀k (hk:k<l.length),∀j,j<2->∃x,aa.flatten[k*2+j]?=some x/\(j=0->x = .string l[k])) :
  Calls Tryz.prog 383 #[v,.func (.func 382) #[] #[.pointer (some ⟨b,0,none⟩)]] w fun e w'=>e = .returned (.bool (l.any fun x=>x.toList == hd.toList))/\w.grownBy w' none:=by
 by_cases hz:l=[]
 ·subst hz
  obtain⟨a,c,rfl⟩:=zP hv
  clear h0 hv
  go_enter Tryz.func383,Tryz.ntmps383
  go_wp2
  go_loopw [8] (fun iv wr=>iv = .int .i64 0/\wr=w) (fun _ _=>0)
  case atStart=>exact⟨rfl,rfl⟩
  case round=>
   obtain⟨rfl,rfl⟩:=hrel
   go_wp2
   go_ret
   exact⟨rfl,zM _ _⟩
 ·have ae:0<l.length:=List.length_pos_iff.2 hz
  obtain⟨g,ad,rfl,_,_⟩:=World.ownsRow.form hv ae
  have ab:∀k (hk:k<l.length) j,j<2->w.cell? ⟨g,k*2+j,none⟩=aa.flatten[k*2+j]?:=fun k hk j hj=>xd hv (k*2+j) (by omega)
  have hI:=wC b hd w g l.length ad (fun k=>l[k]?.getD ⟨#[]⟩) (fun k=>aa.flatten[k*2+1]?.getD undef) hn hc
   (fun k hk=>by
    obtain⟨x,h1,h2⟩:=h0 k hk 0 (by omega)
    have:=ab k hk 0 (by omega)
    rw[Nat.add_zero] at this h1
    rw[this,h1,h2 rfl,qN hk];rfl)
   (fun k hk=>by obtain⟨x,h1,_⟩:=h0 k hk 1 (by omega);rw[ab k hk 1 (by omega),h1];rfl)
  have HA:Y (decide (0<=firstAt (fun k=>(l[k]?.getD ⟨#[]⟩).toList == hd.toList) l.length 0)=l.any fun x=>x.toList == hd.toList):=by
   show _=_
   rw[js _ (l.map fun x=>x.toList == hd.toList) l.length 0 (fun j hj=>by rw[List.getElem?_map,qN hj,Nat.zero_add,qN hj];rfl) (by simp),List.any_map];rfl
  have HI:Y _:=fun(_:Unit)=>hI
  clear hI h0 hv ab hc
  generalize firstAt (fun k=>(l[k]?.getD ⟨#[]⟩).toList == hd.toList) l.length 0=ix at*
  go_enter Tryz.func383,Tryz.ntmps383
  go_wp2_with fail
  refine(HI.o ()).mono ?_
  rintro e w1 ⟨rfl,hg⟩
  go_wp2
  go_ret
  exact⟨za HA.o,hg⟩
theorem kV (b:Nat)(hd:ByteArray)(w:World)(g n c:Nat)(aa:Nat->ByteArray)(y1:Nat->Value)(hn:n<=2000000000000)(hc:w.cell? ⟨b,0,none⟩=some (.string hd))
  (h0:∀k,k<n->w.cell? ⟨g,k*2,none⟩=some (.string (aa k))) (g1:∀k,k<n->w.cell? ⟨g,k*2+1,none⟩=some (y1 k)) :
  Calls Tryz.prog 326 #[.slice (some ⟨g,0,none⟩) n c,.func (.func 267) #[] #[.pointer (some ⟨b,0,none⟩)]] w fun e w'=>e = .returned (.int .i64 (firstAt (fun k=>(aa k).toList == hd.toList) n 0))/\w.grownBy w' none:=by
 have H0:Y _:=h0
 have G1:Y _:=g1
 have HC:Y _:=hc
 clear h0 g1 hc
 go_enter Tryz.func326,Tryz.ntmps326
 go_wp2
 go_loopw [8] (fun iv wr=>∃k:Nat,k<=n/\iv = .int .i64 k/\Y (firstAt (fun k=>(aa k).toList == hd.toList) n 0=firstAt (fun k=>(aa k).toList == hd.toList) (n - k) k)/\Y (w.grownBy wr none)) (fun iv _=>n - (intOf iv).toNat)
 case atStart=>exact⟨0,zl _,rfl,rfl,zM _ _⟩
 case round=>
  obtain⟨k,hk,rfl,HF,HG⟩:=hrel
  by_cases ae:k<n
  ·have c0:=HG.o.cell (H0.o k ae) (by simp)
   have c1:=HG.o.cell (G1.o k ae) (by simp)
   have ab:Y (firstAt (fun k=>(aa k).toList == hd.toList) n 0=if ((aa k).toList == hd.toList)=true then (k:Int) else firstAt (fun k=>(aa k).toList == hd.toList) (n - (k+1)) (k+1)):=by
    show _=_
    rw[HF.o,show n - k=(n - (k+1))+1 by omega,firstAt]
   have HS:Y _:=fun(w':World) (h:wr.grownBy w' none)=>tZ b hd (y1 k) (aa k) w' (h.cell (HG.o.cell HC.o (by simp)) (by simp))
   clear HF
   cases hb:(aa k).toList == hd.toList
   ·rw[hb] at ab HS
    simp only[xO,if_false] at ab
    clear hb
    go_wp2_with fail
    refine(HS.o _ (zM _ _)).mono ?_
    rintro e w1 ⟨rfl,hg⟩
    have ad:Y _:=zA HG.o hg
    clear hg
    go_wp2
    exact⟨⟨k+1,by omega,by go_num,ab,ad⟩,by simp[intOf];omega⟩
   ·rw[hb] at ab HS
    simp only[if_true] at ab
    clear hb
    go_wp2_with fail
    refine(HS.o _ (zM _ _)).mono ?_
    rintro e w1 ⟨rfl,hg⟩
    have ad:Y _:=zA HG.o hg
    clear hg
    go_wp2
    go_ret
    exact⟨by rw[ab.o];rfl,ad.o⟩
  ·have af:k=n:=by omega
   subst af
   rw[Nat.sub_self,firstAt] at HF
   go_wp2
   go_ret
   exact⟨by rw[HF.o];rfl,HG.o⟩
theorem vY (b:Nat)(hd:ByteArray)(w:World)(v:Value)(l:List (ByteArray))(aa:List (List Value))(hv:w.ownsRow 0 146 2 v l.length aa.flatten)(hn:l.length<=2000000000000)(hc:w.cell? ⟨b,0,none⟩=some (.string hd))
  (h0:∀k (hk:k<l.length),∀j,j<2->∃x,aa.flatten[k*2+j]?=some x/\(j=0->x = .string l[k])) :
  Calls Tryz.prog 269 #[v,.func (.func 267) #[] #[.pointer (some ⟨b,0,none⟩)]] w fun e w'=>e = .returned (.bool (l.any fun x=>x.toList == hd.toList))/\w.grownBy w' none:=by
 by_cases hz:l=[]
 ·subst hz
  obtain⟨a,c,rfl⟩:=zP hv
  clear h0 hv
  go_enter Tryz.func269,Tryz.ntmps269
  go_wp2
  go_loopw [8] (fun iv wr=>iv = .int .i64 0/\wr=w) (fun _ _=>0)
  case atStart=>exact⟨rfl,rfl⟩
  case round=>
   obtain⟨rfl,rfl⟩:=hrel
   go_wp2
   go_ret
   exact⟨rfl,zM _ _⟩
 ·have ae:0<l.length:=List.length_pos_iff.2 hz
  obtain⟨g,ad,rfl,_,_⟩:=World.ownsRow.form hv ae
  have ab:∀k (hk:k<l.length) j,j<2->w.cell? ⟨g,k*2+j,none⟩=aa.flatten[k*2+j]?:=fun k hk j hj=>xd hv (k*2+j) (by omega)
  have hI:=kV b hd w g l.length ad (fun k=>l[k]?.getD ⟨#[]⟩) (fun k=>aa.flatten[k*2+1]?.getD undef) hn hc
   (fun k hk=>by
    obtain⟨x,h1,h2⟩:=h0 k hk 0 (by omega)
    have:=ab k hk 0 (by omega)
    rw[Nat.add_zero] at this h1
    rw[this,h1,h2 rfl,qN hk];rfl)
   (fun k hk=>by obtain⟨x,h1,_⟩:=h0 k hk 1 (by omega);rw[ab k hk 1 (by omega),h1];rfl)
  have HA:Y (decide (0<=firstAt (fun k=>(l[k]?.getD ⟨#[]⟩).toList == hd.toList) l.length 0)=l.any fun x=>x.toList == hd.toList):=by
   show _=_
   rw[js _ (l.map fun x=>x.toList == hd.toList) l.length 0 (fun j hj=>by rw[List.getElem?_map,qN hj,Nat.zero_add,qN hj];rfl) (by simp),List.any_map];rfl
  have HI:Y _:=fun(_:Unit)=>hI
  clear hI h0 hv ab hc
  generalize firstAt (fun k=>(l[k]?.getD ⟨#[]⟩).toList == hd.toList) l.length 0=ix at*
  go_enter Tryz.func269,Tryz.ntmps269
  go_wp2_with fail
  refine(HI.o ()).mono ?_
  rintro e w1 ⟨rfl,hg⟩
  go_wp2
  go_ret
  exact⟨za HA.o,hg⟩
theorem kW (b:Nat)(hd:Int)(w:World)(g n c:Nat)(aa:Nat->Int)(y1 y2 y3 y4 y5 y6:Nat->Value)(hn:n<=2000000000000)(hc:w.cell? ⟨b,0,none⟩=some (.int .i64 hd))
  (h0:∀k,k<n->w.cell? ⟨g,k*7,none⟩=some (.int .i64 (aa k))) (g1:∀k,k<n->w.cell? ⟨g,k*7+1,none⟩=some (y1 k)) (g2:∀k,k<n->w.cell? ⟨g,k*7+2,none⟩=some (y2 k)) (g3:∀k,k<n->w.cell? ⟨g,k*7+3,none⟩=some (y3 k)) (g4:∀k,k<n->w.cell? ⟨g,k*7+4,none⟩=some (y4 k)) (g5:∀k,k<n->w.cell? ⟨g,k*7+5,none⟩=some (y5 k)) (g6:∀k,k<n->w.cell? ⟨g,k*7+6,none⟩=some (y6 k)) :
  Calls Tryz.prog 376 #[.slice (some ⟨g,0,none⟩) n c,.func (.func 328) #[] #[.pointer (some ⟨b,0,none⟩)]] w fun e w'=>e = .returned (.int .i64 (firstAt (fun k=>aa k == hd) n 0))/\w.grownBy w' none:=by
 have H0:Y _:=h0
 have G1:Y _:=g1
 have G2:Y _:=g2
 have G3:Y _:=g3
 have G4:Y _:=g4
 have G5:Y _:=g5
 have G6:Y _:=g6
 have HC:Y _:=hc
 clear h0 g1 g2 g3 g4 g5 g6 hc
 go_enter Tryz.func376,Tryz.ntmps376
 go_wp2
 go_loopw [8] (fun iv wr=>∃k:Nat,k<=n/\iv = .int .i64 k/\Y (firstAt (fun k=>aa k == hd) n 0=firstAt (fun k=>aa k == hd) (n - k) k)/\Y (w.grownBy wr none)) (fun iv _=>n - (intOf iv).toNat)
 case atStart=>exact⟨0,zl _,rfl,rfl,zM _ _⟩
 case round=>
  obtain⟨k,hk,rfl,HF,HG⟩:=hrel
  by_cases ab:k<n
  ·have c0:=HG.o.cell (H0.o k ab) (by simp)
   have c1:=HG.o.cell (G1.o k ab) (by simp)
   have c2:=HG.o.cell (G2.o k ab) (by simp)
   have c3:=HG.o.cell (G3.o k ab) (by simp)
   have c4:=HG.o.cell (G4.o k ab) (by simp)
   have c5:=HG.o.cell (G5.o k ab) (by simp)
   have c6:=HG.o.cell (G6.o k ab) (by simp)
   have ad:Y (firstAt (fun k=>aa k == hd) n 0=if (aa k == hd)=true then (k:Int) else firstAt (fun k=>aa k == hd) (n - (k+1)) (k+1)):=by
    show _=_
    rw[HF.o,show n - k=(n - (k+1))+1 by omega,firstAt]
   have HS:Y _:=fun(w':World) (h:wr.grownBy w' none)=>td b hd (aa k) (y1 k) (y2 k) (y3 k) (y4 k) (y5 k) (y6 k) w' (h.cell (HG.o.cell HC.o (by simp)) (by simp))
   clear HF
   cases hb:aa k == hd
   ·rw[hb] at ad HS
    simp only[xO,if_false] at ad
    clear hb
    go_wp2_with fail
    refine(HS.o _ (zM _ _)).mono ?_
    rintro e w1 ⟨rfl,hg⟩
    have ae:Y _:=zA HG.o hg
    clear hg
    go_wp2
    exact⟨⟨k+1,by omega,by go_num,ad,ae⟩,by simp[intOf];omega⟩
   ·rw[hb] at ad HS
    simp only[if_true] at ad
    clear hb
    go_wp2_with fail
    refine(HS.o _ (zM _ _)).mono ?_
    rintro e w1 ⟨rfl,hg⟩
    have ae:Y _:=zA HG.o hg
    clear hg
    go_wp2
    go_ret
    exact⟨by rw[ad.o];rfl,ae.o⟩
  ·have af:k=n:=by omega
   subst af
   rw[Nat.sub_self,firstAt] at HF
   go_wp2
   go_ret
   exact⟨by rw[HF.o];rfl,HG.o⟩
theorem vZ (b:Nat)(hd:Int)(w:World)(v:Value)(l:List (Int))(aa:List (List Value))(hv:w.ownsRow 0 213 7 v l.length aa.flatten)(hn:l.length<=2000000000000)(hc:w.cell? ⟨b,0,none⟩=some (.int .i64 hd))
  (h0:∀k (hk:k<l.length),∀j,j<7->∃x,aa.flatten[k*7+j]?=some x/\(j=0->x = .int .i64 l[k])) :
  Calls Tryz.prog 329 #[v,.func (.func 328) #[] #[.pointer (some ⟨b,0,none⟩)]] w fun e w'=>e = .returned (.bool (l.any fun x=>x == hd))/\w.grownBy w' none:=by
 by_cases hz:l=[]
 ·subst hz
  obtain⟨a,c,rfl⟩:=zP hv
  clear h0 hv
  go_enter Tryz.func329,Tryz.ntmps329
  go_wp2
  go_loopw [8] (fun iv wr=>iv = .int .i64 0/\wr=w) (fun _ _=>0)
  case atStart=>exact⟨rfl,rfl⟩
  case round=>
   obtain⟨rfl,rfl⟩:=hrel
   go_wp2
   go_ret
   exact⟨rfl,zM _ _⟩
 ·have ae:0<l.length:=List.length_pos_iff.2 hz
  obtain⟨g,ad,rfl,_,_⟩:=World.ownsRow.form hv ae
  have ab:∀k (hk:k<l.length) j,j<7->w.cell? ⟨g,k*7+j,none⟩=aa.flatten[k*7+j]?:=fun k hk j hj=>xd hv (k*7+j) (by omega)
  have hI:=kW b hd w g l.length ad (fun k=>l[k]?.getD 0) (fun k=>aa.flatten[k*7+1]?.getD undef) (fun k=>aa.flatten[k*7+2]?.getD undef) (fun k=>aa.flatten[k*7+3]?.getD undef) (fun k=>aa.flatten[k*7+4]?.getD undef) (fun k=>aa.flatten[k*7+5]?.getD undef) (fun k=>aa.flatten[k*7+6]?.getD undef) hn hc
   (fun k hk=>by
    obtain⟨x,h1,h2⟩:=h0 k hk 0 (by omega)
    have:=ab k hk 0 (by omega)
    rw[Nat.add_zero] at this h1
    rw[this,h1,h2 rfl,qN hk];rfl)
   (fun k hk=>by obtain⟨x,h1,_⟩:=h0 k hk 1 (by omega);rw[ab k hk 1 (by omega),h1];rfl)
   (fun k hk=>by obtain⟨x,h1,_⟩:=h0 k hk 2 (by omega);rw[ab k hk 2 (by omega),h1];rfl)
   (fun k hk=>by obtain⟨x,h1,_⟩:=h0 k hk 3 (by omega);rw[ab k hk 3 (by omega),h1];rfl)
   (fun k hk=>by obtain⟨x,h1,_⟩:=h0 k hk 4 (by omega);rw[ab k hk 4 (by omega),h1];rfl)
   (fun k hk=>by obtain⟨x,h1,_⟩:=h0 k hk 5 (by omega);rw[ab k hk 5 (by omega),h1];rfl)
   (fun k hk=>by obtain⟨x,h1,_⟩:=h0 k hk 6 (by omega);rw[ab k hk 6 (by omega),h1];rfl)
  have HA:Y (decide (0<=firstAt (fun k=>l[k]?.getD 0 == hd) l.length 0)=l.any fun x=>x == hd):=by
   show _=_
   rw[js _ (l.map fun x=>x == hd) l.length 0 (fun j hj=>by rw[List.getElem?_map,qN hj,Nat.zero_add,qN hj];rfl) (by simp),List.any_map];rfl
  have HI:Y _:=fun(_:Unit)=>hI
  clear hI h0 hv ab hc
  generalize firstAt (fun k=>l[k]?.getD 0 == hd) l.length 0=ix at*
  go_enter Tryz.func329,Tryz.ntmps329
  go_wp2_with fail
  refine(HI.o ()).mono ?_
  rintro e w1 ⟨rfl,hg⟩
  go_wp2
  go_ret
  exact⟨za HA.o,hg⟩
theorem tT (x:ByteArray)(w:World)(g n c:Nat)(aa:Nat->ByteArray)(hn:n<=2000000000000)(h0:∀k,k<n->w.cell? ⟨g,k,none⟩=some (.string (aa k))) :
  Calls Tryz.prog 414 #[.slice (some ⟨g,0,none⟩) n c,.string x] w fun e w'=>e = .returned (.int .i64 (firstAt (fun k=>x.toList == (aa k).toList) n 0))/\w'=w:=by
 have H0:Y _:=h0
 clear h0
 go_enter Tryz.func414,Tryz.ntmps414
 go_wp2
 go_loop [8] (fun iv=>∃k:Nat,k<=n/\iv = .int .i64 k/\Y (firstAt (fun k=>x.toList == (aa k).toList) n 0=firstAt (fun k=>x.toList == (aa k).toList) (n - k) k)) (fun iv=>n - (intOf iv).toNat)
 case atStart=>exact⟨0,zl _,rfl,rfl⟩
 case round=>
  obtain⟨k,hk,rfl,HF⟩:=hrel
  by_cases ae:k<n
  ·have c0:=H0.o k ae
   have ab:Y (firstAt (fun k=>x.toList == (aa k).toList) n 0=if (x.toList == (aa k).toList)=true then (k:Int) else firstAt (fun k=>x.toList == (aa k).toList) (n - (k+1)) (k+1)):=by
    show _=_
    rw[HF.o,show n - k=(n - (k+1))+1 by omega,firstAt]
   clear HF
   generalize aa k=nk at*
   cases hb:(x.toList == nk.toList)
   ·rw[hb] at ab
    simp only[xO,if_false] at ab
    go_wp2
    exact⟨⟨k+1,by omega,by go_num,ab⟩,by simp[intOf];omega⟩
   ·rw[hb] at ab
    simp only[if_true] at ab
    go_wp2
    go_ret
    exact⟨by rw[ab.o];rfl,rfl⟩
  ·have ad:k=n:=by omega
   subst ad
   rw[Nat.sub_self,firstAt] at HF
   go_wp2
   go_ret
   exact⟨by rw[HF.o];rfl,rfl⟩
theorem uE (x:List UInt8)(w:World)(v:Value)(l:List (List UInt8))(hv:w.ownsRow 0 9 1 v l.length (zh l))(hn:l.length<=2000000000000) :
  Calls Tryz.prog 384 #[v,.string (R.str x)] w fun e w'=>e = .returned (.bool (l.any fun n=>decide (n=x)))/\w'=w:=by
 by_cases hz:l=[]
 ·subst hz
  obtain⟨a,c,rfl⟩:=zP hv
  clear hv
  go_enter Tryz.func384,Tryz.ntmps384
  go_wp2
  go_loop [8] (fun iv=>iv = .int .i64 0) (fun _=>0)
  case atStart=>rfl
  case round=>
   subst hrel
   go_wp2
   go_ret
   exact⟨rfl,rfl⟩
 ·have ab:0<l.length:=List.length_pos_iff.2 hz
  obtain⟨g,aa,rfl,_,_⟩:=World.ownsRow.form hv ab
  have hI:=tT (R.str x) w g l.length aa (fun k=>R.str (l[k]?.getD [])) hn (fun k hk=>by
   rw[xd hv k (by omega)];unfold zh
   rw[List.getElem?_map,qN hk];rfl)
  have hq:∀a b:List UInt8,((R.str a).toList == (R.str b).toList)=decide (b=a):=fun a b=>by rw[toLs,ByteArray.toList_eq,R.str_toList,Bool.eq_iff_iff];simp[eq_comm]
  simp only[hq] at hI
  have HA:Y (decide (0<=firstAt (fun k=>decide (l[k]?.getD []=x)) l.length 0)=l.any fun n=>decide (n=x)):=by
   show _=_
   rw[js _ (l.map fun n=>decide (n=x)) l.length 0 (fun j hj=>by rw[List.getElem?_map,qN hj,Nat.zero_add,qN hj];rfl) (by simp),List.any_map];rfl
  have HI:Y _:=fun(_:Unit)=>hI
  clear hI hv hq
  generalize firstAt (fun k=>decide (l[k]?.getD []=x)) l.length 0=ix at*
  go_enter Tryz.func384,Tryz.ntmps384
  go_wp2_with fail
  refine(HI.o ()).mono ?_
  rintro e w1 ⟨rfl,hg⟩
  rw[hg]
  clear hg w1
  go_wp2
  go_ret
  exact⟨za HA.o,rfl⟩
theorem zoJ (l:List (List UInt8×List UInt8))(k:Nat)(hk:k<l.length):(zb l)[k*2]?=some (.string (R.str l[k].1))/\(zb l)[k*2+1]?=some (.string (R.str l[k].2)):=by
 induction l generalizing k with
 | nil=>simp at hk
 | cons t l ih=>
  have e:zb (t :: l)=[Value.string (R.str t.1),.string (R.str t.2)]++zb l:=by simp[zb]
  rw[e]
  match k with
  | 0=>exact⟨rfl,rfl⟩
  | k+1=>
   have:=ih k (by simpa using hk)
   rw[List.getElem?_append_right (by simp;omega),List.getElem?_append_right (by simp;omega)]
   simp only[zm,qi]
   rw[show(k+1)*2 - (0+1+1)=k*2 by omega,show(k+1)*2+1 - (0+1+1)=k*2+1 by omega]
   exact this
theorem zj9 (a b:List UInt8):((R.str a).toList == (R.str b).toList)=decide (a=b):=by rw[toLs,ByteArray.toList_eq,R.str_toList]
theorem zfI (b:Nat)(hd:List UInt8)(w:World)(v:Value)(aa:List (List UInt8×List UInt8))(hS:w.ownsRow 0 280 2 v aa.length (zb aa))(hn:aa.length<=2000000000000)(hc:w.cell? ⟨b,0,none⟩=some (.string (R.str hd))) :
  Calls Tryz.prog 383 #[v,.func (.func 382) #[] #[.pointer (some ⟨b,0,none⟩)]] w fun e w'=>e = .returned (.bool ((aa.map Prod.fst).any fun n=>decide (n=hd)))/\w.grownBy w' none:=by
 have h:=vx b (R.str hd) w v (aa.map fun t=>R.str t.1) (aa.map fun t=>[Value.string (R.str t.1),.string (R.str t.2)]) (by rw[qw];exact hS) (by rw[qw];exact hn) hc (fun k hk j hj=>by
  rw[qw] at hk
  have ha:=zoJ aa k hk
  unfold zb at ha
  match j,hj with
  | 0,_=>exact⟨_,ha.1,fun _=>by rw[List.getElem_map]⟩
  | 1,_=>exact⟨_,ha.2,fun h=>absurd h (by decide)⟩)
 rw[List.any_map] at h
 simp only[Function.comp_def,zj9] at h
 rw[List.any_map];exact h
theorem PInv.row {w w':World}{rb B n sz:Nat}{s:ByteArray}{st:P.St}{e:TypeId}{v:Value}{xs:List Value}(h:PInv w rb s st)(hr:w.ownsRow B e sz v n xs)(hg:w.grownBy w' (some rb))(aa:e≠204):w'.ownsRow B e sz v n xs:=
 zS hr hg (zV h.rd hr (Ne.symm aa))
theorem fm {w:World}{rb:Nat}{s:ByteArray}{st:P.St}(h:PInv w rb s st)(c0 c1 c2 c3 c4 vS vD:Value)(aa:List (List UInt8×List UInt8))(ab:List (List UInt8))
  (hS:w.ownsRow 0 280 2 vS aa.length (zb aa)) (hD:w.ownsRow 0 9 1 vD ab.length (zh ab)) (hn:aa.length<=2000000000000) (hm:ab.length<=2000000000000) :
  Calls Tryz.prog 336 #[.pointer (some ⟨rb,0,none⟩),.agg #[c0,c1,c2,c3,c4,vS,vD]] w fun e w'=>e = .returned (.string (R.str (qQ s.data.toList st (aa.map Prod.fst++ab)).1))/\PInv w' rb s (qQ s.data.toList st (aa.map Prod.fst++ab)).2/\w.grownBy w' (some rb):=by
 have HP:Y (qQ s.data.toList st (aa.map Prod.fst++ab)=((qB s.data.toList st).1,zX (qB s.data.toList st).2 ((aa.map Prod.fst++ab).any fun n=>decide (n=(qB s.data.toList st).1)) 5 st.tok.at_)):=rfl
 have H0:Y _:=h
 have aU:=zE h.rd
 have aJ:Y _:=hS
 have aF:Y _:=hD
 clear h hS hD
 go_enter Tryz.func336,Tryz.ntmps336
 have C0:Y (w.grownBy w (some rb)):=zM _ _
 have aI:Y _:=aJ.o
 have aD:Y _:=aF.o
 go_wp2_with fail
 refine(fo (H0.o.keep (zJ _ _ _))).mono ?_
 rintro e w1 ⟨rfl,I1,ai⟩
 have J1:Y _:=I1
 have b1:=zE J1.o.rd
 have s1:w.heap.size+1<=w1.heap.size:=by have h:=ai.size;simpa using h
 have G1:Y (w.grownBy w1 (some rb)):=(zA (zJ _ _ _) ai)
 have C1:=J (zA C0.o G1.o)
 have z1:=C1.o.size
 have au:Y _:=H0.o.row aI.o G1.o (by decide)
 have aE:Y _:=H0.o.row aD.o G1.o (by decide)
 have ag:Y (w1.heap[w.heap.size]?=some (.cells #[c0,c1,c2,c3,c4,vS,vD] 213)):=xc ai (by simp;omega)
 clear ai I1
 generalize qB s.data.toList st=q at*
 obtain⟨hd,a4⟩:=q
 simp only at J1 HP ⊢
 rw[List.any_append] at HP
 have aX:=zE ag.o
 have aV:=zr9 ag.o
 have aW:=zrA ag.o
 have aG:Y (aa.length<=2000000000000):=hn
 have aH:Y (ab.length<=2000000000000):=hm
 clear hn hm
 go_wp2_with fail
 refine(zfI w1.heap.size hd _ vS aa (xX au.o _) aG.o (z8 (heap_alloc_new w1 _))).mono ?_
 rintro e w2 ⟨rfl,al⟩
 have aj:=zk al (some rb)
 have J2:Y _:=((J1.o.keep (zJ _ _ _))).keep al
 have b2:=zE J2.o.rd
 have s2:w1.heap.size+1<=w2.heap.size:=by have h:=aj.size;simpa using h
 have G2:Y (w1.grownBy w2 (some rb)):=(zA (zJ _ _ _) aj)
 have C2:=J (zA C1.o G2.o)
 have z2:=C2.o.size
 have av:Y _:=J1.o.row au.o G2.o (by decide)
 have ak:Y _:=J1.o.row aE.o G2.o (by decide)
 have ah:=J (zB ag.o G2.o (by simp;omega))
 have af:Y (w2.heap[w1.heap.size]?=some (.cells #[.string (R.str hd)] 9)):=xc aj (by simp;omega)
 clear aj al
 generalize((aa.map Prod.fst).any fun n=>decide (n=hd))=b1 at*
 cases b1
 ·have a1:=zE ah.o
  have a0:=zrA ah.o
  have aZ:=zE af.o
  have aY:=zqV af.o
  go_wp2_with fail
  refine(uE hd _ vD ab ak.o aH.o).mono ?_
  rintro e wX ⟨rfl,aA⟩
  rw[aA]
  clear aA wX
  go_wp2_with fail
  refine(xV J2.o _ _ _).mono ?_
  rintro e aB ⟨rfl,aw,am⟩
  have ay:Y _:=aw
  have aS:=zE ay.o.rd
  have a2:w2.heap.size+0<=aB.heap.size:=by have h:=am.size;simpa using h
  have ad:Y (w2.grownBy aB (some rb)):=am
  have ao:=J (zA C2.o ad.o)
  have a5:=ao.o.size
  have aO:Y _:=J2.o.row av.o ad.o (by decide)
  have aM:Y _:=J2.o.row ak.o ad.o (by decide)
  have aQ:=J (zB ah.o ad.o (by simp;omega))
  have aq:=J (zB af.o ad.o (by simp;omega))
  clear am aw
  have aL:=zE aq.o
  have aK:=zqV aq.o
  go_wp2
  go_ret
  exact⟨by rw[HP.o];rfl,by rw[HP.o,Bool.false_or];exact ay.o,ao.o⟩
 ·go_wp2_with fail
  refine(xV J2.o _ _ _).mono ?_
  rintro e aC ⟨rfl,ax,an⟩
  have az:Y _:=ax
  have aT:=zE az.o.rd
  have a3:w2.heap.size+0<=aC.heap.size:=by have h:=an.size;simpa using h
  have ae:Y (w2.grownBy aC (some rb)):=an
  have ap:=J (zA C2.o ae.o)
  have a6:=ap.o.size
  have aP:Y _:=J2.o.row av.o ae.o (by decide)
  have aN:Y _:=J2.o.row ak.o ae.o (by decide)
  have aR:=J (zB ah.o ae.o (by simp;omega))
  have ar:=J (zB af.o ae.o (by simp;omega))
  clear an ax
  have aL:=zE ar.o
  have aK:=zqV ar.o
  go_wp2
  go_ret
  exact⟨by rw[HP.o];rfl,by rw[HP.o,Bool.true_or];exact az.o,ap.o⟩
theorem zj6 {w:World}{rb:Nat}{s:ByteArray}{st:P.St}(h:PInv w rb s st)(c0 c1 c2 c3 c4 vS vD:Value)(aa:List (List UInt8×List UInt8))(ab:List (List UInt8))
  (hS:w.ownsRow 0 280 2 vS aa.length (zb aa)) (hD:w.ownsRow 0 9 1 vD ab.length (zh ab)) (hn:aa.length<=2000000000000) (hm:ab.length<=2000000000000) :
  Calls Tryz.prog 274 #[.pointer (some ⟨rb,0,none⟩),.agg #[c0,c1,c2,c3,c4,vS,vD]] w fun e w'=>e = .returned (.agg #[.string (R.str (xB s.data.toList st aa.length (aa.map Prod.fst++ab)).1.1),.string (R.str (xB s.data.toList st aa.length (aa.map Prod.fst++ab)).1.2)])/\PInv w' rb s (xB s.data.toList st aa.length (aa.map Prod.fst++ab)).2/\w.grownBy w' (some rb):=by
 have HP:Y (xB s.data.toList st aa.length (aa.map Prod.fst++ab)=(((yR s.data.toList st aa.length (aa.map Prod.fst++ab)).1,(qg s.data.toList (yR s.data.toList st aa.length (aa.map Prod.fst++ab)).2).1),zH s.data.toList (qg s.data.toList (yR s.data.toList st aa.length (aa.map Prod.fst++ab)).2).2 [59])):=rfl
 have HA:Y (yR s.data.toList st aa.length (aa.map Prod.fst++ab)=qQ s.data.toList (zH s.data.toList (zf st aa.length 3) qy) (aa.map Prod.fst++ab)):=rfl
 have H0:Y _:=h
 have aV:=zE h.rd
 have aF:Y _:=hS
 have aw:Y _:=hD
 obtain⟨sa,sc,rfl⟩:=zP hS
 have ax:Y _:=hn
 have ay:Y _:=hm
 clear h hS hD hn hm
 go_enter Tryz.func274,Tryz.ntmps274
 have C0:Y (w.grownBy w (some rb)):=zM _ _
 have az:Y _:=aF.o
 have ao:Y _:=aw.o
 go_wp2_with fail
 have J1:Y _:=H0.o.keep (zJ w (.cells #[c0,c1,c2,c3,c4,.slice sa aa.length sc,vD] 213) none)
 have C1:Y (w.grownBy (World.alloc w (.cells #[c0,c1,c2,c3,c4,.slice sa aa.length sc,vD] 213)) (some rb)):=zA C0.o (zJ w (.cells #[c0,c1,c2,c3,c4,.slice sa aa.length sc,vD] 213) _)
 have aA:Y _:=xX az.o (.cells #[c0,c1,c2,c3,c4,.slice sa aa.length sc,vD] 213)
 have ap:Y _:=xX ao.o (.cells #[c0,c1,c2,c3,c4,.slice sa aa.length sc,vD] 213)
 have aK:Y ((World.alloc w (.cells #[c0,c1,c2,c3,c4,.slice sa aa.length sc,vD] 213)).heap[w.heap.size]?=some (.cells #[c0,c1,c2,c3,c4,.slice sa aa.length sc,vD] 213)):=heap_alloc_new _ _
 have s1:w.heap.size+1<=(World.alloc w (.cells #[c0,c1,c2,c3,c4,.slice sa aa.length sc,vD] 213)).heap.size:=by simp
 have t1:(World.alloc w (.cells #[c0,c1,c2,c3,c4,.slice sa aa.length sc,vD] 213)).heap.size<=w.heap.size+1:=by simp
 generalize(World.alloc w (.cells #[c0,c1,c2,c3,c4,.slice sa aa.length sc,vD] 213))=w1 at*
 have b1:rb<w1.heap.size:=by omega
 have z1:=C1.o.size
 have J2:Y _:=J1.o.keep (zJ w1 (.cells #[.string ⟨#[]⟩,.string ⟨#[]⟩] 280) none)
 have C2:Y (w.grownBy (World.alloc w1 (.cells #[.string ⟨#[]⟩,.string ⟨#[]⟩] 280)) (some rb)):=zA C1.o (zJ w1 (.cells #[.string ⟨#[]⟩,.string ⟨#[]⟩] 280) _)
 have aB:Y _:=xX aA.o (.cells #[.string ⟨#[]⟩,.string ⟨#[]⟩] 280)
 have aq:Y _:=xX ap.o (.cells #[.string ⟨#[]⟩,.string ⟨#[]⟩] 280)
 have aL:=J (zB aK.o (zJ w1 (.cells #[.string ⟨#[]⟩,.string ⟨#[]⟩] 280) none) (by simp))
 have am:Y ((World.alloc w1 (.cells #[.string ⟨#[]⟩,.string ⟨#[]⟩] 280)).heap[w1.heap.size]?=some (.cells #[.string ⟨#[]⟩,.string ⟨#[]⟩] 280)):=heap_alloc_new _ _
 have s2:w1.heap.size+1<=(World.alloc w1 (.cells #[.string ⟨#[]⟩,.string ⟨#[]⟩] 280)).heap.size:=by simp
 have t2:(World.alloc w1 (.cells #[.string ⟨#[]⟩,.string ⟨#[]⟩] 280)).heap.size<=w1.heap.size+1:=by simp
 generalize(World.alloc w1 (.cells #[.string ⟨#[]⟩,.string ⟨#[]⟩] 280))=w2 at*
 have b2:rb<w2.heap.size:=by omega
 have z2:=C2.o.size
 have hE:w1.heap.size=w.heap.size+1:=by omega
 rw[hE] at am
 clear hE
 refine(yx J2.o _ _).mono ?_
 rintro e w3 ⟨rfl,I3,af⟩
 have J3:Y _:=I3
 have b3:=zE J3.o.rd
 have s3:w2.heap.size+0<=w3.heap.size:=by have h:=af.size;simpa using h
 have G3:Y (w2.grownBy w3 (some rb)):=af
 have C3:=J (zA C2.o G3.o)
 have z3:=C3.o.size
 have aC:Y _:=J2.o.row aB.o G3.o (by decide)
 have ar:Y _:=J2.o.row aq.o G3.o (by decide)
 have aM:=J (zB aL.o G3.o (by simp;omega))
 have aG:=J (zB am.o G3.o (by simp;omega))
 clear af I3
 go_wp2_with fail
 refine(xK J3.o _).mono ?_
 rintro e w4 ⟨rfl,I4,ag⟩
 have J4:Y _:=I4
 have b4:=zE J4.o.rd
 have s4:w3.heap.size+0<=w4.heap.size:=by have h:=ag.size;simpa using h
 have G4:Y (w3.grownBy w4 (some rb)):=ag
 have C4:=J (zA C3.o G4.o)
 have z4:=C4.o.size
 have al:Y _:=J3.o.row aC.o G4.o (by decide)
 have ak:Y _:=J3.o.row ar.o G4.o (by decide)
 have ad:=J (zB aM.o G4.o (by simp;omega))
 have aH:=J (zB aG.o G4.o (by simp;omega))
 clear ag I4
 rw[show(⟨#[115,101,116]⟩:ByteArray).data.toList=qy from rfl] at J4
 have a3:=zE ad.o
 have aW:=zr4 ad.o
 have aX:=zr5 ad.o
 have aY:=zr6 ad.o
 have aZ:=zr7 ad.o
 have a0:=zr8 ad.o
 have a1:=zr9 ad.o
 have a2:=zrA ad.o
 go_wp2_with fail
 refine(fm J4.o c0 c1 c2 c3 c4 (.slice sa aa.length sc) vD aa ab al.o ak.o ax.o ay.o).mono ?_
 rintro e w5 ⟨rfl,I5,ah⟩
 have J5:Y _:=I5
 have b5:=zE J5.o.rd
 have s5:w4.heap.size+0<=w5.heap.size:=by have h:=ah.size;simpa using h
 have G5:Y (w4.grownBy w5 (some rb)):=ah
 have C5:=J (zA C4.o G5.o)
 have z5:=C5.o.size
 have aD:Y _:=J4.o.row al.o G5.o (by decide)
 have au:Y _:=J4.o.row ak.o G5.o (by decide)
 have aN:=J (zB ad.o G5.o (by simp;omega))
 have aI:=J (zB aH.o G5.o (by simp;omega))
 clear ah I5
 rw[<-HA.o] at J5
 rw[<-HA.o]
 clear HA
 generalize yR s.data.toList st aa.length (aa.map Prod.fst++ab)=q at*
 obtain⟨nm,aR⟩:=q
 simp only at J5 HP ⊢
 go_wp2_with fail
 refine(zaQ J5.o).mono ?_
 rintro e w6 ⟨rfl,I6,ai⟩
 have J6:Y _:=I6
 have b6:=zE J6.o.rd
 have s6:w5.heap.size+0<=w6.heap.size:=by have h:=ai.size;simpa using h
 have G6:Y (w5.grownBy w6 (some rb)):=ai
 have C6:=J (zA C5.o G6.o)
 have z6:=C6.o.size
 have aE:Y _:=J5.o.row aD.o G6.o (by decide)
 have av:Y _:=J5.o.row au.o G6.o (by decide)
 have aO:=J (zB aN.o G6.o (by simp;omega))
 have aJ:=J (zB aI.o G6.o (by simp;omega))
 clear ai I6
 generalize qg s.data.toList aR=q at*
 obtain⟨vl,a7⟩:=q
 simp only at J6 HP ⊢
 go_wp2_with fail
 refine(xK J6.o _).mono ?_
 rintro e w7 ⟨rfl,I7,aj⟩
 have J7:Y _:=I7
 have b7:=zE J7.o.rd
 have s7:w6.heap.size+0<=w7.heap.size:=by have h:=aj.size;simpa using h
 have G7:Y (w6.grownBy w7 (some rb)):=aj
 have C7:=J (zA C6.o G7.o)
 have z7:=C7.o.size
 have aT:Y _:=J6.o.row aE.o G7.o (by decide)
 have aS:Y _:=J6.o.row av.o G7.o (by decide)
 have aU:=J (zB aO.o G7.o (by simp;omega))
 have ae:=J (zB aJ.o G7.o (by simp;omega))
 clear aj I7
 have a6:=zE ae.o
 have aP:=zqW ae.o
 have a4:=zrB 0 ae.o
 have aQ:=zqX ae.o
 have a5:=zrB 1 ae.o
 go_wp2
 have an:=zA (zD w7 (w.heap.size+1) 0 (.string (R.str nm))) (zD _ (w.heap.size+1) 1 (.string (R.str vl)))
 exact bodyPost_ret (v:=.agg #[.string (R.str nm),.string (R.str vl)]) (by simp[results,Tryz.results274,go_sem,aP,aQ]) rfl ⟨by rw[HP.o],by rw[HP.o];exact J7.o.other an (by omega),zY C7.o an (by omega)⟩
theorem zfH {w:World}{rb:Nat}{s:ByteArray}{st:P.St}(h:PInv w rb s st)(c0 c1 c2 c3 c4 vS vD:Value)(ab:List (List UInt8×List UInt8))(aa:List (List UInt8))
  (hS:w.ownsRow 0 280 2 vS ab.length (zb ab)) (hD:w.ownsRow 0 9 1 vD aa.length (zh aa)) (hn:ab.length<=2000000000000) (hm:aa.length<=2000000000000) :
  Calls Tryz.prog 275 #[.pointer (some ⟨rb,0,none⟩),.agg #[c0,c1,c2,c3,c4,vS,vD]] w fun e w'=>e = .returned (.string (R.str (qu s.data.toList st aa.length (ab.map Prod.fst++aa)).1))/\PInv w' rb s (qu s.data.toList st aa.length (ab.map Prod.fst++aa)).2/\w.grownBy w' (some rb):=by
 have HP:Y (qu s.data.toList st aa.length (ab.map Prod.fst++aa)=((yS s.data.toList st aa.length (ab.map Prod.fst++aa)).1,zH s.data.toList (yS s.data.toList st aa.length (ab.map Prod.fst++aa)).2 [59])):=rfl
 have HA:Y (yS s.data.toList st aa.length (ab.map Prod.fst++aa)=qQ s.data.toList (zH s.data.toList (zf st aa.length 3) qX) (ab.map Prod.fst++aa)):=rfl
 have H0:Y _:=h
 have aB:=zE h.rd
 have av:Y _:=hS
 have an:Y _:=hD
 obtain⟨da,dc,rfl⟩:=zP hD
 have ao:Y _:=hn
 have ap:Y _:=hm
 clear h hS hD hn hm
 go_enter Tryz.func275,Tryz.ntmps275
 have C0:Y (w.grownBy w (some rb)):=zM _ _
 have aq:Y _:=av.o
 have ak:Y _:=an.o
 go_wp2_with fail
 refine(yx (H0.o.keep (zJ _ _ _)) _ _).mono ?_
 rintro e w1 ⟨rfl,I1,ae⟩
 have J1:Y _:=I1
 have b1:=zE J1.o.rd
 have s1:w.heap.size+1<=w1.heap.size:=by have h:=ae.size;simpa using h
 have G1:Y (w.grownBy w1 (some rb)):=(zA (zJ _ _ _) ae)
 have C1:=J (zA C0.o G1.o)
 have z1:=C1.o.size
 have ar:Y _:=H0.o.row aq.o G1.o (by decide)
 have al:Y _:=H0.o.row ak.o G1.o (by decide)
 have aw:Y (w1.heap[w.heap.size]?=some (.cells #[c0,c1,c2,c3,c4,vS,.slice da aa.length dc] 213)):=xc ae (by simp;omega)
 clear ae I1
 go_wp2_with fail
 refine(xK J1.o _).mono ?_
 rintro e w2 ⟨rfl,I2,af⟩
 have J2:Y _:=I2
 have b2:=zE J2.o.rd
 have s2:w1.heap.size+0<=w2.heap.size:=by have h:=af.size;simpa using h
 have G2:Y (w1.grownBy w2 (some rb)):=af
 have C2:=J (zA C1.o G2.o)
 have z2:=C2.o.size
 have aj:Y _:=J1.o.row ar.o G2.o (by decide)
 have ai:Y _:=J1.o.row al.o G2.o (by decide)
 have ad:=J (zB aw.o G2.o (by simp;omega))
 clear af I2
 rw[show(⟨#[100,114,111,112]⟩:ByteArray).data.toList=qX from rfl] at J2
 have aJ:=zE ad.o
 have aC:=zr4 ad.o
 have aD:=zr5 ad.o
 have aE:=zr6 ad.o
 have aF:=zr7 ad.o
 have aG:=zr8 ad.o
 have aH:=zr9 ad.o
 have aI:=zrA ad.o
 go_wp2_with fail
 refine(fm J2.o c0 c1 c2 c3 c4 vS (.slice da aa.length dc) ab aa aj.o ai.o ao.o ap.o).mono ?_
 rintro e w3 ⟨rfl,I3,ag⟩
 have J3:Y _:=I3
 have b3:=zE J3.o.rd
 have s3:w2.heap.size+0<=w3.heap.size:=by have h:=ag.size;simpa using h
 have G3:Y (w2.grownBy w3 (some rb)):=ag
 have C3:=J (zA C2.o G3.o)
 have z3:=C3.o.size
 have au:Y _:=J2.o.row aj.o G3.o (by decide)
 have am:Y _:=J2.o.row ai.o G3.o (by decide)
 have ax:=J (zB ad.o G3.o (by simp;omega))
 clear ag I3
 rw[<-HA.o] at J3
 rw[<-HA.o]
 clear HA
 generalize yS s.data.toList st aa.length (ab.map Prod.fst++aa)=q at*
 obtain⟨nm,aK⟩:=q
 simp only at J3 HP ⊢
 go_wp2_with fail
 refine(xK J3.o _).mono ?_
 rintro e w4 ⟨rfl,I4,ah⟩
 have J4:Y _:=I4
 have b4:=zE J4.o.rd
 have s4:w3.heap.size+0<=w4.heap.size:=by have h:=ah.size;simpa using h
 have G4:Y (w3.grownBy w4 (some rb)):=ah
 have C4:=J (zA C3.o G4.o)
 have z4:=C4.o.size
 have az:Y _:=J3.o.row au.o G4.o (by decide)
 have ay:Y _:=J3.o.row am.o G4.o (by decide)
 have aA:=J (zB ax.o G4.o (by simp;omega))
 clear ah I4
 go_wp2
 go_ret
 exact⟨by rw[HP.o];rfl,by rw[HP.o];exact J4.o,C4.o⟩
end Go.Proofs.YtfocdefchbnkpaaGreatDoor
