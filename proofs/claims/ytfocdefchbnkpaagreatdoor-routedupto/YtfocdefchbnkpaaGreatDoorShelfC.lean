/- strings.Repeat, strings.Join, strconv.Itoa, at this dump. -/
import Derived.Test.YtfocdefchbnkpaaGreatDoorAli
import Derived.Shelf.Strings.Repeat
import Derived.Shelf.Strings.OnBuilder
import Derived.Shelf.Strconv.Itoa3
import Derived.Ground.NamesProg
import Derived.Test.YtfocdefchbnkpaaGreatDoorProg
import Derived.Test.YtfocdefchbnkpaaGreatDoorRefJ
import Derived.Test.YtfocdefchbnkpaaGreatDoorRefQ
set_option maxRecDepth 100000
set_option maxHeartbeats 20000000
namespace Go.Proofs
open Go.Shelf Go.RowKit Go.Lib Go.Sort
def Tryz.lays105_ren : Go.Shelf.Ren := ⟨fun | 105 => 157 | 212 => 215 | 99 => 216 | 165 => 217 | 166 => 156 | 170 => 218 | 169 => 69 | 263 => 295 | 264 => 296 | 206 => 230 | 240 => 214 | 241 => 297 | 276 => 294 | 277 => 345 | n => n, fun | 9 => 9 | 3 => 3 | 4 => 4 | 20 => 20 | 0 => 0 | 46 => 220 | 109 => 327 | 5 => 5 | 72 => 141 | 76 => 271 | 51 => 152 | 146 => 388 | 53 => 60 | 148 => 390 | 70 => 139 | 37 => 32 | 75 => 270 | 127 => 215 | 164 => 386 | 80 => 58 | n => n, fun | n => n⟩
theorem Tryz.lays105 : Go.Proofs.Lays.n105 Tryz.prog Tryz.lays105_ren := {
  mixed := by kernel_rfl
  f99 := Tryz.func216.trans (congrArg some (by kernel_rfl))
  f105 := Tryz.func157.trans (congrArg some (by kernel_rfl))
  f165 := Tryz.func217.trans (congrArg some (by kernel_rfl))
  f166 := Tryz.func156.trans (congrArg some (by kernel_rfl))
  f169 := Tryz.func69.trans (congrArg some (by kernel_rfl))
  f170 := Tryz.func218.trans (congrArg some (by kernel_rfl))
  f206 := Tryz.func230.trans (congrArg some (by kernel_rfl))
  f212 := Tryz.func215.trans (congrArg some (by kernel_rfl))
  f240 := Tryz.func214.trans (congrArg some (by kernel_rfl))
  f241 := Tryz.func297.trans (congrArg some (by kernel_rfl))
  f263 := Tryz.func295.trans (congrArg some (by kernel_rfl))
  f264 := Tryz.func296.trans (congrArg some (by kernel_rfl))
  f276 := Tryz.func294.trans (congrArg some (by kernel_rfl))
  f277 := Tryz.func345.trans (congrArg some (by kernel_rfl))
  t0 := Tryz.underlying0
  a0 := Tryz.isAgg0
  z0 := Tryz.sizeOf0
  v0 := Tryz.zeroValue0
  t3 := Tryz.underlying3
  a3 := Tryz.isAgg3
  z3 := Tryz.sizeOf3
  v3 := Tryz.zeroValue3
  t4 := Tryz.underlying4
  a4 := Tryz.isAgg4
  z4 := Tryz.sizeOf4
  v4 := Tryz.zeroValue4
  t5 := Tryz.underlying5
  a5 := Tryz.isAgg5
  z5 := Tryz.sizeOf5
  v5 := Tryz.zeroValue5
  t9 := Tryz.underlying9
  a9 := Tryz.isAgg9
  z9 := Tryz.sizeOf9
  v9 := Tryz.zeroValue9
  t20 := Tryz.underlying20
  a20 := Tryz.isAgg20
  z20 := Tryz.sizeOf20
  v20 := Tryz.zeroValue20
  t37 := Tryz.underlying32
  a37 := Tryz.isAgg32
  z37 := Tryz.sizeOf32
  v37 := Tryz.zeroValue32
  t46 := Tryz.underlying220
  a46 := Tryz.isAgg220
  z46 := Tryz.sizeOf220
  v46 := Tryz.zeroValue220
  t51 := Tryz.underlying152
  a51 := Tryz.isAgg152
  z51 := Tryz.sizeOf152
  v51 := Tryz.zeroValue152
  t53 := Tryz.underlying60
  a53 := Tryz.isAgg60
  z53 := Tryz.sizeOf60
  v53 := Tryz.zeroValue60
  t70 := Tryz.underlying139
  a70 := Tryz.isAgg139
  z70 := Tryz.sizeOf139
  v70 := Tryz.zeroValue139
  t72 := Tryz.underlying141
  a72 := Tryz.isAgg141
  z72 := Tryz.sizeOf141
  v72 := Tryz.zeroValue141
  t75 := Tryz.underlying270
  a75 := Tryz.isAgg270
  z75 := Tryz.sizeOf270
  v75 := Tryz.zeroValue270
  t76 := Tryz.underlying271
  a76 := Tryz.isAgg271
  z76 := Tryz.sizeOf271
  v76 := Tryz.zeroValue271
  t109 := Tryz.underlying327
  a109 := Tryz.isAgg327
  z109 := Tryz.sizeOf327
  v109 := Tryz.zeroValue327
  t127 := Tryz.underlying215
  a127 := Tryz.isAgg215
  z127 := Tryz.sizeOf215
  v127 := Tryz.zeroValue215
  t146 := Tryz.underlying388
  a146 := Tryz.isAgg388
  z146 := Tryz.sizeOf388
  v146 := Tryz.zeroValue388
  t148 := Tryz.underlying390
  a148 := Tryz.isAgg390
  z148 := Tryz.sizeOf390
  v148 := Tryz.zeroValue390
  t164 := Tryz.underlying386
  a164 := Tryz.isAgg386
  z164 := Tryz.sizeOf386
  v164 := Tryz.zeroValue386 }
def Tryz.lays156_ren : Go.Shelf.Ren := ⟨fun | 156 => 220 | 165 => 217 | 166 => 156 | 169 => 69 | 240 => 214 | 241 => 297 | 276 => 294 | 277 => 345 | n => n, fun | 31 => 22 | 9 => 9 | 3 => 3 | 4 => 4 | 0 => 0 | 20 => 20 | 72 => 141 | 76 => 271 | 70 => 139 | 37 => 32 | 75 => 270 | 127 => 215 | 164 => 386 | 5 => 5 | 80 => 58 | n => n, fun | n => n⟩
theorem Tryz.lays156 : Go.Proofs.Lays.n156 Tryz.prog Tryz.lays156_ren := {
  mixed := by kernel_rfl
  f156 := Tryz.func220.trans (congrArg some (by kernel_rfl))
  f165 := Tryz.func217.trans (congrArg some (by kernel_rfl))
  f166 := Tryz.func156.trans (congrArg some (by kernel_rfl))
  f169 := Tryz.func69.trans (congrArg some (by kernel_rfl))
  f240 := Tryz.func214.trans (congrArg some (by kernel_rfl))
  f241 := Tryz.func297.trans (congrArg some (by kernel_rfl))
  f276 := Tryz.func294.trans (congrArg some (by kernel_rfl))
  f277 := Tryz.func345.trans (congrArg some (by kernel_rfl))
  t0 := Tryz.underlying0
  a0 := Tryz.isAgg0
  z0 := Tryz.sizeOf0
  v0 := Tryz.zeroValue0
  t3 := Tryz.underlying3
  a3 := Tryz.isAgg3
  z3 := Tryz.sizeOf3
  v3 := Tryz.zeroValue3
  t4 := Tryz.underlying4
  a4 := Tryz.isAgg4
  z4 := Tryz.sizeOf4
  v4 := Tryz.zeroValue4
  t9 := Tryz.underlying9
  a9 := Tryz.isAgg9
  z9 := Tryz.sizeOf9
  v9 := Tryz.zeroValue9
  t20 := Tryz.underlying20
  a20 := Tryz.isAgg20
  z20 := Tryz.sizeOf20
  v20 := Tryz.zeroValue20
  t31 := Tryz.underlying22
  a31 := Tryz.isAgg22
  z31 := Tryz.sizeOf22
  v31 := Tryz.zeroValue22
  t37 := Tryz.underlying32
  a37 := Tryz.isAgg32
  z37 := Tryz.sizeOf32
  v37 := Tryz.zeroValue32
  t70 := Tryz.underlying139
  a70 := Tryz.isAgg139
  z70 := Tryz.sizeOf139
  v70 := Tryz.zeroValue139
  t72 := Tryz.underlying141
  a72 := Tryz.isAgg141
  z72 := Tryz.sizeOf141
  v72 := Tryz.zeroValue141
  t75 := Tryz.underlying270
  a75 := Tryz.isAgg270
  z75 := Tryz.sizeOf270
  v75 := Tryz.zeroValue270
  t76 := Tryz.underlying271
  a76 := Tryz.isAgg271
  z76 := Tryz.sizeOf271
  v76 := Tryz.zeroValue271
  t127 := Tryz.underlying215
  a127 := Tryz.isAgg215
  z127 := Tryz.sizeOf215
  v127 := Tryz.zeroValue215
  t164 := Tryz.underlying386
  a164 := Tryz.isAgg386
  z164 := Tryz.sizeOf386
  v164 := Tryz.zeroValue386 }
def Tryz.laysM171_ren : Go.Shelf.Ren := ⟨fun | 171 => 159 | 243 => 219 | 246 => 298 | 283 => 346 | 284 => 347 | 285 => 348 | 286 => 349 | 129 => 285 | 317 => 387 | 318 => 388 | 319 => 389 | 320 => 390 | 337 => 415 | 338 => 416 | n => n, fun | 3 => 3 | 9 => 9 | 2 => 2 | 4 => 4 | 171 => 415 | 0 => 0 | 53 => 60 | 37 => 32 | 5 => 5 | 173 => 417 | 212 => 441 | 51 => 152 | 20 => 20 | 213 => 442 | 46 => 220 | 232 => 469 | 233 => 470 | n => n, fun | 17 => 1 | 18 => 4 | 19 => 5 | n => n⟩
theorem Tryz.laysM171 : Go.Proofs.LaysM.n171 Tryz.prog Tryz.laysM171_ren := {
  mixed := by kernel_rfl
  f129 := Tryz.func285.trans (congrArg some (by kernel_rfl))
  f171 := Tryz.func159.trans (congrArg some (by kernel_rfl))
  f243 := Tryz.func219.trans (congrArg some (by kernel_rfl))
  f246 := Tryz.func298.trans (congrArg some (by kernel_rfl))
  f283 := Tryz.func346.trans (congrArg some (by kernel_rfl))
  f284 := Tryz.func347.trans (congrArg some (by kernel_rfl))
  f285 := Tryz.func348.trans (congrArg some (by kernel_rfl))
  f286 := Tryz.func349.trans (congrArg some (by kernel_rfl))
  f317 := Tryz.func387.trans (congrArg some (by kernel_rfl))
  f318 := Tryz.func388.trans (congrArg some (by kernel_rfl))
  f319 := Tryz.func389.trans (congrArg some (by kernel_rfl))
  f320 := Tryz.func390.trans (congrArg some (by kernel_rfl))
  f337 := Tryz.func415.trans (congrArg some (by kernel_rfl))
  f338 := Tryz.func416.trans (congrArg some (by kernel_rfl))
  t0 := Tryz.underlying0
  a0 := Tryz.isAgg0
  z0 := Tryz.sizeOf0
  v0 := Tryz.zeroValue0
  t2 := Tryz.underlying2
  a2 := Tryz.isAgg2
  z2 := Tryz.sizeOf2
  v2 := Tryz.zeroValue2
  t3 := Tryz.underlying3
  a3 := Tryz.isAgg3
  z3 := Tryz.sizeOf3
  v3 := Tryz.zeroValue3
  t4 := Tryz.underlying4
  a4 := Tryz.isAgg4
  z4 := Tryz.sizeOf4
  v4 := Tryz.zeroValue4
  t5 := Tryz.underlying5
  a5 := Tryz.isAgg5
  z5 := Tryz.sizeOf5
  v5 := Tryz.zeroValue5
  t9 := Tryz.underlying9
  a9 := Tryz.isAgg9
  z9 := Tryz.sizeOf9
  v9 := Tryz.zeroValue9
  t20 := Tryz.underlying20
  a20 := Tryz.isAgg20
  z20 := Tryz.sizeOf20
  v20 := Tryz.zeroValue20
  t37 := Tryz.underlying32
  a37 := Tryz.isAgg32
  z37 := Tryz.sizeOf32
  v37 := Tryz.zeroValue32
  t46 := Tryz.underlying220
  a46 := Tryz.isAgg220
  z46 := Tryz.sizeOf220
  v46 := Tryz.zeroValue220
  t51 := Tryz.underlying152
  a51 := Tryz.isAgg152
  z51 := Tryz.sizeOf152
  v51 := Tryz.zeroValue152
  t53 := Tryz.underlying60
  a53 := Tryz.isAgg60
  z53 := Tryz.sizeOf60
  v53 := Tryz.zeroValue60
  t171 := Tryz.underlying415
  a171 := Tryz.isAgg415
  z171 := Tryz.sizeOf415
  v171 := Tryz.zeroValue415
  t173 := Tryz.underlying417
  a173 := Tryz.isAgg417
  z173 := Tryz.sizeOf417
  v173 := Tryz.zeroValue417
  t212 := Tryz.underlying441
  a212 := Tryz.isAgg441
  z212 := Tryz.sizeOf441
  v212 := Tryz.zeroValue441
  t213 := Tryz.underlying442
  a213 := Tryz.isAgg442
  z213 := Tryz.sizeOf442
  t232 := Tryz.underlying469
  a232 := Tryz.isAgg469
  z232 := Tryz.sizeOf469
  v232 := Tryz.zeroValue469
  t233 := Tryz.underlying470
  a233 := Tryz.isAgg470
  z233 := Tryz.sizeOf470
  v233 := Tryz.zeroValue470
  g17 := by kernel_rfl
  g18 := by kernel_rfl
  g19 := by kernel_rfl
  i0 := by kernel_rfl
  i2 := by kernel_rfl
  i3 := by kernel_rfl
  i4 := by kernel_rfl
  i5 := by kernel_rfl
  i9 := by kernel_rfl
  i20 := by kernel_rfl
  i37 := by kernel_rfl
  i46 := by kernel_rfl
  i51 := by kernel_rfl
  i53 := by kernel_rfl
  i171 := by kernel_rfl
  i173 := by kernel_rfl
  i212 := by kernel_rfl
  i232 := by kernel_rfl
  i233 := by kernel_rfl
  m17 := by kernel_rfl
  m18 := by kernel_rfl
  m19 := by kernel_rfl }
theorem Tryz.extra105 : Builder.Extra Tryz.prog Tryz.lays105_ren := {
  sizeBuilder := by kernel_rfl
  liesBuilder := by kernel_rfl
  t5 := Tryz.underlying5
  a5 := Tryz.isAgg5
  z5 := Tryz.sizeOf5
  v5 := Tryz.zeroValue5
  infoByte := by kernel_rfl
  cellsByte := by kernel_rfl
  sizeByte := by kernel_rfl
  neB5 := by decide }
theorem Tryz.extra156 : Builder.Extra Tryz.prog Tryz.lays156_ren := {
  sizeBuilder := by kernel_rfl
  liesBuilder := by kernel_rfl
  t5 := Tryz.underlying5
  a5 := Tryz.isAgg5
  z5 := Tryz.sizeOf5
  v5 := Tryz.zeroValue5
  infoByte := by kernel_rfl
  cellsByte := by kernel_rfl
  sizeByte := by kernel_rfl
  neB5 := by decide }
theorem Tryz.strings_Repeat (s : ByteArray) (c : Nat) (w : World) (hc : c ≤ 9223372036854775807) (hlen : s.size * c ≤ 140737488355328) :
    Calls Tryz.prog 157 #[.string s, .int .i64 c] w fun e w' => e = .returned (.string ⟨(Lib.repeatL s.data.toList c).toArray⟩) ∧ Below w.heap.size w w' := Any.strings_Repeat Tryz.lays105 Tryz.extra105 s c w hc hlen
theorem Tryz.strings_Join (bk o c : Nat) (xs : List ByteArray) (sep : ByteArray) (w : World)
    (hcells : ∀ (j : Nat) x, xs[j]? = some x → w.cell? ⟨bk, o + j, none⟩ = some (.string x))
    (hbk : bk < w.heap.size) (hN : xs.length ≤ 140737488355328) (hcap : xs.length ≤ c)
    (hlen : (Lib.join (xs.map (·.data.toList)) sep.data.toList).length ≤ 140737488355328) :
    Calls Tryz.prog 220 #[.slice (some ⟨bk, o, none⟩) xs.length c, .string sep] w fun e w' => e = .returned (.string ⟨(Lib.join (xs.map (·.data.toList)) sep.data.toList).toArray⟩) ∧ Below w.heap.size w w' := Any.strings_Join Tryz.lays156 Tryz.extra156 bk o c xs sep w hcells hbk hN hcap hlen
theorem Tryz.strconv_Itoa (n : Int) (h0 : -9223372036854775808 ≤ n) (h1 : n ≤ 9223372036854775807) (w : World) (htab : Lib.TabIs Tryz.prog w "internal/strconv.uint64pow10" .u64 Lib.pow10Tab) :
    Calls Tryz.prog 159 #[.int .i64 n] w fun e w' => e = .returned (.string ⟨(Lib.itoa n).toArray⟩) ∧ ∃ k os, w' = Sort.grow (w.drewN k) os := Any.strconv_Itoa Tryz.laysM171 n h0 h1 w htab
end Go.Proofs
namespace Go.Proofs.YtfocdefchbnkpaaGreatDoor
open Go.RowKit
theorem zp3 (x:UInt8):Lib.index [] [x] = -1:=rfl
theorem toNat34 (c:UInt8):((c.toNat:Int)=34↔c=34):=by
 constructor
 ·intro h;apply UInt8.toNat_inj.1;show c.toNat=34;omega
 ·intro h;subst h;rfl
theorem toNat10 (c:UInt8):((c.toNat:Int)=10↔c=10):=by
 constructor
 ·intro h;apply UInt8.toNat_inj.1;show c.toNat=10;omega
 ·intro h;subst h;rfl
theorem zgX (t:List UInt8) :
  (R.at0 t (R.span R.insideI t)=34/\R.span R.insideI t<t.length/\Lib.index t [34]=R.span R.insideI t/\Lib.index (t.take (R.span R.insideI t)) [10] = -1)\/
  ((R.span R.insideI t=t.length\/R.at0 t (R.span R.insideI t)=10)/\(Lib.index t [34] = -1\/(0<=Lib.index t [34]/\0<=Lib.index (t.take (Lib.index t [34]).toNat) [10]))):=by
 induction t with
 | nil=>right;exact⟨Or.inl rfl,Or.inl rfl⟩
 | cons c r ih=>
  rw[R.span]
  by_cases aa:c=34
  ·left
   have hp:R.insideI c.toNat=false:=by subst aa;rfl
   rw[if_neg (by rw[hp];simp)]
   refine⟨by subst aa;rfl,by simp,by rw[yL,if_pos aa];rfl,by simp[zp3]⟩
  ·by_cases ab:c=10
   ·right
    have hp:R.insideI c.toNat=false:=by subst ab;rfl
    rw[if_neg (by rw[hp];simp)]
    refine⟨Or.inr (by subst ab;rfl),?_⟩
    rw[yL,if_neg aa]
    by_cases h2:Lib.index r [34] = -1
    ·left;rw[if_pos h2]
    ·right
     rw[if_neg h2]
     have hg:=Lib.index_ge r [34]
     refine⟨by omega,?_⟩
     obtain⟨n,hn⟩:∃n,(Lib.index r [34]+1).toNat=n+1:=⟨(Lib.index r [34]).toNat,by omega⟩
     rw[hn,List.take_succ_cons,yL,if_pos ab];exact Int.le_refl 0
   ·have hp:R.insideI c.toNat=true:=by
     unfold R.insideI;apply decide_eq_true
     exact⟨fun e=>aa ((toNat34 c).1 e),fun e=>ab ((toNat10 c).1 e)⟩
    rw[if_pos hp]
    have ad:∀n,R.at0 (c :: r) (n+1)=R.at0 r n:=fun n=>rfl
    rw[ad]
    rcases ih with ⟨h1,h2,h3,h4⟩ | ⟨h1,h2⟩
    ·left
     refine⟨h1,by simp;omega,?_,?_⟩
     ·rw[yL,if_neg aa,if_neg (by omega),h3];rfl
     ·rw[List.take_succ_cons,yL,if_neg ab,if_pos h4]
    ·right
     refine⟨?_,?_⟩
     ·rcases h1 with h1 | h1
      ·left;simp[h1]
      ·right;exact h1
     ·rw[yL,if_neg aa]
      rcases h2 with h2 | ⟨h2,h3⟩
      ·left;rw[if_pos h2]
      ·right
       rw[if_neg (by omega)]
       refine⟨by omega,?_⟩
       obtain⟨n,hn⟩:∃n:Nat,Lib.index r [34]=(n:Int):=⟨(Lib.index r [34]).toNat,by omega⟩
       rw[hn] at h3 ⊢
       rw[show((n:Int)+1).toNat=n+1 by omega,List.take_succ_cons,yL,if_neg ab]
       rw[show((n:Int)).toNat=n by omega] at h3
       rw[if_neg (by omega)];omega
inductive TokSim (t:R.Tok) (p:P.Tk):Prop
 | fin (h:p.at_=t.at_) (k:t.k=0) (j:p.k=0) (r:p.raw=[])
 | word (h:p.at_=t.at_) (k:t.k=119) (j:p.k=1) (r:p.raw=t.s) (c:UInt8) (cs:List UInt8) (e:t.s=c :: cs) (hc:R.smallI c.toNat=true)
 | num (h:p.at_=t.at_) (k:t.k=49) (j:p.k=2) (r:p.raw=t.s) (c:UInt8) (cs:List UInt8) (e:t.s=c :: cs) (hc:R.digitI c.toNat=true)
 | str (h:p.at_=t.at_) (k:t.k=34) (j:p.k=3) (r:p.raw=34 :: t.s++[34])
 | sign (h:p.at_=t.at_) (k:t.k=115) (j:p.k=4) (r:p.raw=t.s) (c:UInt8) (e:t.s=[c]) (hc:R.signI c.toNat=true)
 | wrong (h:p.at_=t.at_) (k:t.k=120) (j:p.k=5) (r:p.raw=[])
theorem TokSim.place {t:R.Tok}{p:P.Tk}(h:TokSim t p):p.at_=t.at_:=by cases h <;> assumption
theorem zb6 {l:List UInt8}{i:Nat}(h:i<l.length)(hb:R.at0 l i=32\/R.at0 l i=10):zU l i=zU l (i+1):=by
 have e:zj l i=zj l (i+1):=by
  unfold zj
  rw[List.drop_eq_getElem_cons h,R.span,if_pos]
  ·omega
  ·unfold R.at0 at hb
   rw[List.getD_eq_getElem?_getD,qN h] at hb
   simp only[Option.getD_some] at hb
   unfold qt
   rcases hb with hb | hb <;> rw[hb] <;> rfl
 unfold zU;rw[e]
theorem ko {l:List UInt8}{i:Nat}(h:i<l.length)(hb:¬(R.at0 l i=32\/R.at0 l i=10)):zj l i=i:=by
 unfold zj
 rw[List.drop_eq_getElem_cons h,R.span,if_neg]
 ·rfl
 ·unfold R.at0 at hb
  rw[List.getD_eq_getElem?_getD,qN h] at hb
  simp only[Option.getD_some] at hb
  unfold qt
  simp only[Bool.or_eq_true,beq_iff_eq]
  exact hb
theorem fF {l:List UInt8}{i:Nat}(h:i<l.length):∃c,l.drop i=c :: l.drop (i+1)/\R.at0 l i=c.toNat:=by
 refine⟨l[i],List.drop_eq_getElem_cons h,?_⟩
 unfold R.at0;rw[List.getD_eq_getElem?_getD,qN h];rfl
theorem zgZ (l:List UInt8)(i n:Nat):R.at0 (l.drop i) n=R.at0 l (i+n):=by
 unfold R.at0;rw[List.getD_eq_getElem?_getD,List.getD_eq_getElem?_getD,List.getElem?_drop]
theorem zdH (t:List UInt8) :
  (R.at0 t (R.span R.insideI t)=34/\R.span R.insideI t<t.length/\yZ t=decide (24<R.span R.insideI t)/\(Lib.cut t [34]).1.length=R.span R.insideI t)\/
  ((R.span R.insideI t=t.length\/R.at0 t (R.span R.insideI t)=10)/\yZ t=true):=by
 rcases zgX t with ⟨h1,h2,h3,h4⟩ | ⟨h1,h2⟩
 ·left
  have hc:Lib.cut t [34]=(t.take (R.span R.insideI t),t.drop (R.span R.insideI t+1),true):=by
   unfold Lib.cut;rw[if_pos (by omega),h3];rfl
  have hl:(t.take (R.span R.insideI t)).length=R.span R.insideI t:=by rw[List.length_take];omega
  refine⟨h1,h2,?_,by rw[hc];exact hl⟩
  unfold yZ Lib.contains
  rw[hc];simp only
  rw[hl,h4];simp
 ·right
  refine⟨h1,?_⟩
  unfold yZ Lib.contains
  rcases h2 with h2 | ⟨h2,h3⟩
  ·have hc:Lib.cut t [34]=(t,[],false):=by unfold Lib.cut;rw[if_neg (by omega)]
   rw[hc];rfl
  ·have hc:Lib.cut t [34]=(t.take (Lib.index t [34]).toNat,t.drop ((Lib.index t [34]).toNat+1),true):=by unfold Lib.cut;rw[if_pos h2];rfl
   rw[hc];simp only;rw[decide_eq_true h3];simp
theorem zoA {l:List UInt8}{i:Nat}(h:i<l.length)(hb:¬(R.at0 l i=32\/R.at0 l i=10)):TokSim (R.tok l i) (zU l i)/\((R.tend l i).2≠120->(R.tend l i).1=i+(zU l i).raw.length):=by
 obtain⟨c,hd,ha⟩:=fF h
 have ag:R.span R.smallI (l.drop (i+1))<=l.length - (i+1):=by have:=R.span_le R.smallI (l.drop (i+1));rwa[List.length_drop] at this
 have ae:R.span R.digitI (l.drop (i+1))<=l.length - (i+1):=by have:=R.span_le R.digitI (l.drop (i+1));rwa[List.length_drop] at this
 unfold zU
 rw[ko h hb]
 unfold R.tok R.tend zr
 rw[hd,ha]
 simp only
 by_cases h1:R.smallI c.toNat=true
 ·rw[if_pos h1,if_pos h1]
  simp only
  rw[R.span,if_pos h1]
  refine⟨.word rfl rfl rfl ?_ c ((l.drop (i+1)).take (R.span R.smallI (l.drop (i+1)))) ?_ h1,fun _=>?_⟩
  ·rw[if_neg (by decide),show i+1+R.span R.smallI (l.drop (i+1)) - i=R.span R.smallI (l.drop (i+1))+1 by omega]
  ·rw[if_neg (by decide),show i+1+R.span R.smallI (l.drop (i+1)) - i=R.span R.smallI (l.drop (i+1))+1 by omega,List.take_succ_cons]
  ·rw[List.take_succ_cons,zm,List.length_take,List.length_drop];omega
 ·rw[if_neg h1,if_neg h1]
  by_cases h2:R.digitI c.toNat=true
  ·rw[if_pos h2,if_pos h2]
   unfold xH
   rw[R.span,if_pos h2]
   by_cases h5:5<R.span R.digitI (l.drop (i+1))+1
   ·rw[if_pos h5,if_pos (by omega)]
    exact⟨.wrong rfl rfl rfl rfl,fun h=>absurd rfl h⟩
   ·rw[if_neg h5,if_neg (by omega)]
    simp only
    refine⟨.num rfl rfl rfl ?_ c ((l.drop (i+1)).take (R.span R.digitI (l.drop (i+1)))) ?_ h2,fun _=>?_⟩
    ·rw[if_neg (by decide),show i+1+R.span R.digitI (l.drop (i+1)) - i=R.span R.digitI (l.drop (i+1))+1 by omega]
    ·rw[if_neg (by decide),show i+1+R.span R.digitI (l.drop (i+1)) - i=R.span R.digitI (l.drop (i+1))+1 by omega,List.take_succ_cons]
    ·rw[List.take_succ_cons,zm,List.length_take,List.length_drop];omega
  ·rw[if_neg h2,if_neg h2]
   by_cases h3:(c.toNat:Int)=34
   ·have aa:c.toNat=34:=by omega
    rw[if_pos h3,if_pos aa]
    unfold xM
    rw[List.drop_succ_cons,List.drop_zero]
    have hc:=zdH (l.drop (i+1))
    rw[zgZ,List.length_drop] at hc
    have af:R.span R.insideI (l.drop (i+1))<=l.length - (i+1):=by have:=R.span_le R.insideI (l.drop (i+1));rwa[List.length_drop] at this
    rcases hc with ⟨g1,g2,g3,g4⟩ | ⟨g1,g2⟩
    ·rw[g3,g4]
     by_cases ab:24<R.span R.insideI (l.drop (i+1))
     ·rw[if_pos (decide_eq_true ab),if_pos (Or.inr (Or.inr (by omega)))]
      exact⟨.wrong rfl rfl rfl rfl,fun h=>absurd rfl h⟩
     ·have q1:¬(i+1+R.span R.insideI (l.drop (i+1))=l.length\/R.at0 l (i+1+R.span R.insideI (l.drop (i+1)))=10\/24<i+1+R.span R.insideI (l.drop (i+1)) - i - 1):=by rw[g1];omega
      have q2:¬(decide (24<R.span R.insideI (l.drop (i+1)))=true):=by simpa using ab
      rw[if_neg q1,if_neg q2]
      simp only
      refine⟨.str rfl rfl rfl ?_,fun _=>?_⟩
      ·simp only[if_true]
       rw[show i+1+R.span R.insideI (l.drop (i+1))+1 - 1 - (i+1)=R.span R.insideI (l.drop (i+1)) by omega]
       rw[List.take_succ_cons,show c=34 from(toNat34 c).1 h3]
       rw[j6 (by rw[List.length_drop];omega)]
       show 34 :: _=34 :: _
       congr 2
       obtain⟨d,e1,e2⟩:=fF (l:=l) (i:=i+1+R.span R.insideI (l.drop (i+1))) (by omega)
       rw[g1] at e2
       have ad:d=34:=(toNat34 d).1 e2.symm
       rw[List.getElem_drop]
       have e3:=List.drop_eq_getElem_cons (l:=l) (i:=i+1+R.span R.insideI (l.drop (i+1))) (by omega)
       rw[e3] at e1
       rw[(List.cons.inj e1).1,ad]
      ·rw[List.take_succ_cons,zm,List.length_take,List.length_drop];omega
    ·rw[if_pos g2,if_pos (by rcases g1 with g1 | g1;exact Or.inl (by omega);exact Or.inr (Or.inl g1))]
     exact⟨.wrong rfl rfl rfl rfl,fun h=>absurd rfl h⟩
   ·have aa:¬c.toNat=34:=by omega
    rw[if_neg h3,if_neg aa]
    by_cases h4:R.signI c.toNat=true
    ·rw[if_pos h4,if_pos h4]
     simp only
     refine⟨.sign rfl rfl rfl ?_ c ?_ h4,fun _=>?_⟩
     ·rw[if_neg (by decide),show i+1 - i=1 by omega]
     ·rw[if_neg (by decide),show i+1 - i=1 by omega];rfl
     ·rfl
    ·rw[if_neg h4,if_neg h4]
     exact⟨.wrong rfl rfl rfl rfl,fun h=>absurd rfl h⟩
theorem zjE {l:List UInt8}:∀(n i:Nat),l.length+1 - i<=n->i<=l.length->∃t r,R.toksGo n l i=t :: r/\TokSim t (zU l i)/\
  ((t.k=0\/t.k=120)/\r=[]\/(t.k≠0/\t.k≠120)/\∃m,l.length+1 - (t.at_+(zU l i).raw.length)<=m/\t.at_+(zU l i).raw.length<=l.length/\r=R.toksGo m l (t.at_+(zU l i).raw.length)):=by
 intro n
 induction n with
 | zero=>intro i h1 h2;omega
 | succ n ih=>
  intro i h1 h2
  rw[R.toksGo]
  by_cases hi:i<l.length
  ·rw[if_pos hi]
   by_cases hb:R.at0 l i=32\/R.at0 l i=10
   ·rw[if_pos hb,zb6 hi hb]
    exact ih (i+1) (by omega) (by omega)
   ·rw[if_neg hb]
    obtain⟨h3,h4⟩:=zoA hi hb
    have hk:(R.tok l i).k=(R.tend l i).2:=rfl
    have ha:(R.tok l i).at_=i:=rfl
    by_cases aa:(R.tend l i).2=120
    ·rw[if_pos aa]
     exact⟨_,_,rfl,h3,Or.inl ⟨Or.inr (by rw[hk,aa]),rfl⟩⟩
    ·rw[if_neg aa]
     have h5:=h4 aa
     have h6:(zU l i).raw.length<=l.length - i:=by
      unfold zU;rw[ko hi hb];simp only[List.length_take,List.length_drop];omega
     have h0:(R.tok l i).k≠0:=by
      intro e;rw[hk] at e;clear h3 h4 h5 aa h1 ih
      unfold R.tend at e
      repeat' (split at e)
      all_goals simp at e
     have hr:1<=(zU l i).raw.length:=by
      cases h3 with
      | fin h k=>exact absurd k h0
      | word h k j r c cs e=>rw[r,e];simp
      | num h k j r c cs e=>rw[r,e];simp
      | str h k j r=>rw[r];simp
      | sign h k j r c e=>rw[r,e];simp
      | wrong h k=>exact absurd k aa
     refine⟨_,_,rfl,h3,Or.inr ⟨⟨h0,aa⟩,n,?_,?_,?_⟩⟩
     ·rw[ha];omega
     ·rw[ha];omega
     ·rw[ha,h5]
  ·rw[if_neg hi]
   have e:i=l.length:=by omega
   subst e
   refine⟨_,_,rfl,.fin ?_ rfl ?_ ?_,Or.inl ⟨Or.inl rfl,rfl⟩⟩ <;> simp[zU,zj,R.span,zr]
end Go.Proofs.YtfocdefchbnkpaaGreatDoor
