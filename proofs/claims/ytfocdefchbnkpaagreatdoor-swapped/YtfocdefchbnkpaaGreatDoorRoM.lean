/- The table of hosts: a map whose keys are structs. -/
import Derived.Test.YtfocdefchbnkpaaGreatDoorAli
import Derived.Test.YtfocdefchbnkpaaGreatDoorRefJ
import Derived.Maps.Keyed
import Derived.DeepKeys4
import Derived.Maps.Own
import Derived.Shelf.Strings.Prefix
import Derived.Shelf.Sort.Plain
import Derived.Shelf.Slices.In.SortNone
import Derived.Ground.NamesProg
import Derived.Test.YtfocdefchbnkpaaGreatDoorProg
import Derived.Test.YtfocdefchbnkpaaGreatDoorRoE
set_option maxRecDepth 100000
set_option maxHeartbeats 20000000
namespace Go.Proofs.YtfocdefchbnkpaaGreatDoor
open Go.RowKit
theorem zp9:WideMaps.KeyLaw Tryz.prog 163:=deep_law (m:=3) (by omega) (by kernel_rfl) (by kernel_rfl) (by rw[Tryz.underlying163])
theorem vA:Maps.Keyed Tryz.prog 163:=Maps.Keyed.of_law zp9
abbrev HKey:=List UInt8×Bool
def keyV (k:HKey):Value:=.agg #[.string (R.str k.1),.bool k.2]
theorem zeU {a b:HKey}(h:keyV a=keyV b):a=b:=by
 unfold keyV at h
 simp only[Value.agg.injEq,Array.mk.injEq,List.cons.injEq,Value.string.injEq,Value.bool.injEq,and_true] at h
 obtain⟨h1,h2⟩:=h
 have h3:a.1=b.1:=by
  have e1:=R.str_toList a.1
  have e2:=R.str_toList b.1
  rw[<-e1,<-e2,h1]
 exact Prod.ext h3 h2
theorem zhJ (k:HKey)(hs:k.1.length<=maxLen):∃l,keyOf Tryz.prog 163 (keyV k)=some l:=by
 have h1:(Tryz.prog).keyType 163=true:=by kernel_rfl
 have hc:(Tryz.prog).cellsOf 163=2:=by kernel_rfl
 have ab:(Tryz.prog).cellsOf 9=1:=by kernel_rfl
 have aa:(Tryz.prog).cellsOf 4=1:=by kernel_rfl
 have h2:(keyV k).formed Tryz.prog 163=true:=by unfold keyV;simp[Value.formed,Tryz.underlying163,hc]
 obtain⟨d,hd⟩:∃d,(Tryz.prog).types.size=d+1:=⟨(Tryz.prog).types.size - 1,by kernel_rfl⟩
 unfold keyOf
 rw[Tryz.underlying163]
 simp only[h1,h2,Bool.and_self,if_true]
 rw[hd]
 unfold Program.keyLits
 rw[Tryz.underlying163]
 unfold keyV
 simp[Value.cells,hc,ab,aa,Program.keyLits,Tryz.underlying9,Tryz.underlying4,R.str_size,hs]
def MapAt (w:World)(b:Nat)(l:List (HKey×Value)):Prop:=∃es clock,w.heap[b]?=some (.map es clock)/\es.toList.map (fun e=>(e.key,e.val))=l.map (fun x=>(keyV x.1,x.2))
theorem MapAt.lt {w:World}{b:Nat}{l:List (HKey×Value)}(h:MapAt w b l):b<w.heap.size:=by obtain⟨_,_,h1,_⟩:=h;exact(Array.getElem?_eq_some_iff.1 h1).1
theorem MapAt.same {w w':World}{b:Nat}{l:List (HKey×Value)}(h:MapAt w b l)(e:w'.heap[b]?=w.heap[b]?):MapAt w' b l:=by
 obtain⟨es,c,h1,h2⟩:=h;exact⟨es,c,e.trans h1,h2⟩
theorem MapAt.keep {w w':World}{b:Nat}{l:List (HKey×Value)}{row:Option Nat}(h:MapAt w b l)(g:w.grownBy w' row)(hr:some b≠row):MapAt w' b l:=h.same (g.block b h.lt hr)
theorem MapAt.keys {es:Array MapEntry}{l:List (HKey×Value)}(h:es.toList.map (fun e=>(e.key,e.val))=l.map (fun x=>(keyV x.1,x.2)))(hl:∀x∈l,x.1.1.length<=maxLen):∀e∈es.toList,∃q,keyOf Tryz.prog 163 e.key=some q:=fun e he=>by
 have h1:(e.key,e.val)∈l.map (fun x=>(keyV x.1,x.2)):=by rw[<-h];exact List.mem_map.2 ⟨e,he,rfl⟩
 obtain⟨x,hx,e2⟩:=List.mem_map.1 h1
 simp only[Prod.mk.injEq] at e2
 rw[<-e2.1]
 exact zhJ x.1 (hl x hx)
theorem MapAt.look {w:World}{b:Nat}{l:List (HKey×Value)}(h:MapAt w b l)(hl:∀x∈l,x.1.1.length<=maxLen)(k:HKey)(hk:k.1.length<=maxLen) :
  ((∀x∈l,x.1≠k)/\(Instr.lookup 156 (.map (some b)) (keyV k) true).run Tryz.prog w = .ok (.tuple #[.agg #[.slice none 0 0,.slice none 0 0],.bool false]) w)\/
  ∃x∈l,x.1=k/\(Instr.lookup 156 (.map (some b)) (keyV k) true).run Tryz.prog w = .ok (.tuple #[x.2,.bool true]) w:=by
 obtain⟨es,aa,hb,he⟩:=h
 obtain⟨q,hq⟩:=zhJ k hk
 have hz:(zeroValue 161).run Tryz.prog w = .ok (.agg #[.slice none 0 0,.slice none 0 0]) w:=by kernel_rfl
 rcases vA.find w hq es.toList (MapAt.keys he hl) with ⟨h1,h2⟩ | ⟨j,e0,h1,h2,h3⟩
 ·refine Or.inl ⟨fun x hx e=>?_,?_⟩
  ·have h4:(keyV x.1,x.2)∈es.toList.map (fun e=>(e.key,e.val)):=by rw[he];exact List.mem_map.2 ⟨x,hx,rfl⟩
   obtain⟨y,hy,e2⟩:=List.mem_map.1 h4
   simp only[Prod.mk.injEq] at e2
   exact h2 y hy (e2.1.trans (by rw[e]))
  ·simp[Instr.lookup,run_underlying Tryz.underlying156,MapKept.run_getObj_map hb,vA.check w _ hq,h1,hz,Result.andThen]
 ·have h4:(e0.key,e0.val)∈l.map (fun x=>(keyV x.1,x.2)):=by rw[<-he];exact List.mem_map.2 ⟨e0,List.mem_of_getElem? h2,rfl⟩
  obtain⟨x,hx,e2⟩:=List.mem_map.1 h4
  simp only[Prod.mk.injEq] at e2
  refine Or.inr ⟨x,hx,zeU (e2.1.trans h3),?_⟩
  rw[e2.2]
  simp[Instr.lookup,run_underlying Tryz.underlying156,MapKept.run_getObj_map hb,vA.check w _ hq,h1,Result.andThen]
theorem MapAt.more {w:World}{b:Nat}{l:List (HKey×Value)}(h:MapAt w b l)(hl:∀x∈l,x.1.1.length<=maxLen)(k:HKey)(hk:k.1.length<=maxLen)(hn:∀x∈l,x.1≠k)(v:Value) :
  ∃w',(Instr.mapUpdate 156 (.map (some b)) (keyV k) v).run Tryz.prog w = .ok () w'/\MapAt w' b (l++[(k,v)])/\w.grownBy w' (some b):=by
 obtain⟨es,aa,hb,he⟩:=h
 obtain⟨q,hq⟩:=zhJ k hk
 rcases vA.find w hq es.toList (MapAt.keys he hl) with ⟨h1,h2⟩ | ⟨j,e0,h1,h2,h3⟩
 ·refine⟨ChangeMaps.setBlock w b (.map (es.push ⟨keyV k,v,aa⟩) (aa+1)),?_,⟨_,_,ChangeMaps.heap_setBlock_same hb _,?_⟩,⟨rfl,rfl,rfl,by simp[ChangeMaps.setBlock],fun i _ hi=>ChangeMaps.heap_setBlock_other hb _ (fun e=>hi (by rw[e]))⟩⟩
  ·simp[Instr.mapUpdate,run_underlying Tryz.underlying156,MapKept.run_getObj_map hb,vA.check w false hq,h1,MapKept.run_setObj_map _ hb,Result.andThen,ChangeMaps.setBlock]
  ·rw[Array.toList_push,xy,xy,he];rfl
 ·exfalso
  have h4:(e0.key,e0.val)∈l.map (fun x=>(keyV x.1,x.2)):=by rw[<-he];exact List.mem_map.2 ⟨e0,List.mem_of_getElem? h2,rfl⟩
  obtain⟨x,hx,e2⟩:=List.mem_map.1 h4
  simp only[Prod.mk.injEq] at e2
  exact hn x hx (zeU (e2.1.trans h3))
theorem zqO (n:Int)(w:World):(Instr.makeMap 156 (some (.int .i64 n))).run Tryz.prog w = .ok (.map (some w.heap.size)) (w.alloc (.map #[] 0)):=by
 simp[Instr.makeMap,run_underlying Tryz.underlying156,asInt,asIntOf,Result.andThen]
theorem MapAt.made (w:World):MapAt (w.alloc (.map #[] 0)) w.heap.size []:=⟨#[],0,heap_alloc_new w _,rfl⟩
end Go.Proofs.YtfocdefchbnkpaaGreatDoor
namespace Go.Proofs
open Go.Shelf Go.RowKit Go.Lib
def Tryz.lays206_ren : Go.Shelf.Ren := ⟨fun | 206 => 230 | n => n, fun | 9 => 9 | 4 => 4 | 3 => 3 | n => n, fun | n => n⟩
theorem Tryz.lays206 : Go.Proofs.Lays.n206 Tryz.prog Tryz.lays206_ren := {
  mixed := by kernel_rfl
  f206 := Tryz.func230.trans (congrArg some (by kernel_rfl))
  t3 := Tryz.underlying3
  a3 := Tryz.isAgg3
  z3 := Tryz.sizeOf3
  v3 := Tryz.zeroValue3
  t4 := Tryz.underlying4
  a4 := Tryz.isAgg4
  z4 := Tryz.sizeOf4
  v4 := Tryz.zeroValue4
  t9 := Tryz.underlying9
  a9 := Tryz.isAgg9
  z9 := Tryz.sizeOf9
  v9 := Tryz.zeroValue9 }
def Tryz.lays189_ren : Go.Shelf.Ren := ⟨fun | 189 => 242 | 125 => 210 | 257 => 310 | 128 => 284 | 129 => 285 | 294 => 365 | 295 => 366 | 296 => 367 | 297 => 368 | 298 => 369 | 299 => 370 | 216 => 371 | 300 => 372 | 301 => 373 | 328 => 408 | 329 => 338 | 330 => 339 | 331 => 409 | 332 => 410 | 215 => 213 | 343 => 426 | n => n, fun | 28 => 55 | 3 => 3 | 46 => 220 | 0 => 0 | 51 => 152 | 53 => 60 | 4 => 4 | 183 => 373 | 182 => 372 | 131 => 377 | 5 => 5 | 9 => 9 | 218 => 408 | 222 => 411 | 228 => 437 | 229 => 132 | n => n, fun | n => n⟩
theorem Tryz.lays189 : Go.Proofs.Lays.n189 Tryz.prog Tryz.lays189_ren := {
  mixed := by kernel_rfl
  f125 := Tryz.func210.trans (congrArg some (by kernel_rfl))
  f128 := Tryz.func284.trans (congrArg some (by kernel_rfl))
  f129 := Tryz.func285.trans (congrArg some (by kernel_rfl))
  f189 := Tryz.func242.trans (congrArg some (by kernel_rfl))
  f215 := Tryz.func213.trans (congrArg some (by kernel_rfl))
  f216 := Tryz.func371.trans (congrArg some (by kernel_rfl))
  f257 := Tryz.func310.trans (congrArg some (by kernel_rfl))
  f294 := Tryz.func365.trans (congrArg some (by kernel_rfl))
  f295 := Tryz.func366.trans (congrArg some (by kernel_rfl))
  f296 := Tryz.func367.trans (congrArg some (by kernel_rfl))
  f297 := Tryz.func368.trans (congrArg some (by kernel_rfl))
  f298 := Tryz.func369.trans (congrArg some (by kernel_rfl))
  f299 := Tryz.func370.trans (congrArg some (by kernel_rfl))
  f300 := Tryz.func372.trans (congrArg some (by kernel_rfl))
  f301 := Tryz.func373.trans (congrArg some (by kernel_rfl))
  f328 := Tryz.func408.trans (congrArg some (by kernel_rfl))
  f329 := Tryz.func338.trans (congrArg some (by kernel_rfl))
  f330 := Tryz.func339.trans (congrArg some (by kernel_rfl))
  f331 := Tryz.func409.trans (congrArg some (by kernel_rfl))
  f332 := Tryz.func410.trans (congrArg some (by kernel_rfl))
  f343 := Tryz.func426.trans (congrArg some (by kernel_rfl))
  t0 := Tryz.underlying0
  a0 := Tryz.isAgg0
  z0 := Tryz.sizeOf0
  v0 := Tryz.zeroValue0
  t3 := Tryz.underlying3
  a3 := Tryz.isAgg3
  z3 := Tryz.sizeOf3
  v3 := Tryz.zeroValue3
  t4 := Tryz.underlying4
  a4 := Tryz.isAgg4
  z4 := Tryz.sizeOf4
  v4 := Tryz.zeroValue4
  t5 := Tryz.underlying5
  a5 := Tryz.isAgg5
  z5 := Tryz.sizeOf5
  v5 := Tryz.zeroValue5
  t9 := Tryz.underlying9
  a9 := Tryz.isAgg9
  z9 := Tryz.sizeOf9
  v9 := Tryz.zeroValue9
  t28 := Tryz.underlying55
  a28 := Tryz.isAgg55
  z28 := Tryz.sizeOf55
  v28 := Tryz.zeroValue55
  t46 := Tryz.underlying220
  a46 := Tryz.isAgg220
  z46 := Tryz.sizeOf220
  v46 := Tryz.zeroValue220
  t51 := Tryz.underlying152
  a51 := Tryz.isAgg152
  z51 := Tryz.sizeOf152
  v51 := Tryz.zeroValue152
  t53 := Tryz.underlying60
  a53 := Tryz.isAgg60
  z53 := Tryz.sizeOf60
  v53 := Tryz.zeroValue60
  t131 := Tryz.underlying377
  a131 := Tryz.isAgg377
  z131 := Tryz.sizeOf377
  v131 := Tryz.zeroValue377
  t182 := Tryz.underlying372
  a182 := Tryz.isAgg372
  z182 := Tryz.sizeOf372
  v182 := Tryz.zeroValue372
  t183 := Tryz.underlying373
  a183 := Tryz.isAgg373
  z183 := Tryz.sizeOf373
  v183 := Tryz.zeroValue373
  t218 := Tryz.underlying408
  a218 := Tryz.isAgg408
  z218 := Tryz.sizeOf408
  v218 := Tryz.zeroValue408
  t222 := Tryz.underlying411
  a222 := Tryz.isAgg411
  z222 := Tryz.sizeOf411
  v222 := Tryz.zeroValue411
  t228 := Tryz.underlying437
  a228 := Tryz.isAgg437
  z228 := Tryz.sizeOf437
  v228 := Tryz.zeroValue437
  t229 := Tryz.underlying132
  a229 := Tryz.isAgg132
  z229 := Tryz.sizeOf132
  v229 := Tryz.zeroValue132 }
theorem Tryz.stringslite_HasPrefix (s p : ByteArray) (w : World) :
    Calls Tryz.prog 230 #[.string s, .string p] w fun e w' => e = .returned (.bool (Lib.hasPrefix s.data.toList p.data.toList)) ∧ w' = w := Any.stringslite_HasPrefix Tryz.lays206 s p w
theorem Tryz.slices_Sort_int (blk off cap : Nat) (zs : List Int) (w : World) (hH : Go.Sort.Holds (Value.int .i64) w blk off zs.toArray) (hblk : blk < w.heap.size) (hsz : zs.length < 4611686018427387904) :
    Calls Tryz.prog 242 #[.slice (some ⟨blk, off, none⟩) zs.length cap] w fun e w' =>
      e = .returned (.tuple #[]) ∧ ∃ n os, w' = Go.Sort.grow (Go.Sort.putRow (Value.int .i64) (Go.Sort.ahead w n) blk off (zs.mergeSort fun x y => decide (x ≤ y)).toArray) os := Any.slices_Sort_int Tryz.lays189 blk off cap zs w hH hblk hsz
end Go.Proofs
namespace Go.Proofs.YtfocdefchbnkpaaGreatDoor
open Go.RowKit
def Tr.key (l:List UInt8):HKey:=if Lib.hasPrefix l [42,46] then (l.drop 2,true) else (l,false)
theorem zhS (l:List UInt8)(h:Lib.hasPrefix l [42,46]=true):2<=l.length:=by
 match l,h with
 | [],h=>simp[Lib.hasPrefix] at h
 | [a],h=>simp[Lib.hasPrefix] at h
 | a :: b :: t,_=>simp
theorem ziA (l:List UInt8)(w:World)(hs:l.length<=1000000) :
  Calls Tryz.prog 175 #[.string (R.str l),.string ⟨#[42,46]⟩] w fun e w'=>e = .returned (.tuple #[.string (R.str (Tr.key l).1),.bool (Tr.key l).2])/\w.grownBy w' none:=by
 have hz:(R.str l).size=l.length:=R.str_size l
 have hd:(R.str l).data.toList=l:=R.str_toList l
 have HU:Y (Tr.key l=if Lib.hasPrefix l [42,46] then (l.drop 2,true) else (l,false)):=rfl
 have HS:Y (Calls Tryz.prog 230 #[.string (R.str l),.string ⟨#[42,46]⟩] w fun e w'=>e = .returned (.bool (Lib.hasPrefix l [42,46]))/\w'=w):=by
  have h:=Tryz.stringslite_HasPrefix (R.str l) ⟨#[42,46]⟩ w
  rw[R.str_toList] at h;exact h
 have hp:=zhS l
 generalize Lib.hasPrefix l [42,46]=b at*
 cases b
 ·go_enter Tryz.func175,Tryz.ntmps175
  go_wp2_with fail
  refine HS.o.mono ?_
  rintro e wX ⟨rfl,aa⟩
  rw[aa]
  clear aa wX
  go_wp2
  go_ret2
  exact⟨by rw[HU.o];rfl,zM _ _⟩
 ·have ad:=hp rfl
  have ab:(R.str l).extract 2 l.length=R.str (l.drop 2):=by
   rw[jr,hd,jS (by rw[List.length_drop];omega)]
  go_enter Tryz.func175,Tryz.ntmps175
  go_wp2_with fail
  refine HS.o.mono ?_
  rintro e wX ⟨rfl,aa⟩
  rw[aa]
  clear aa wX hp
  go_wp2
  go_ret2
  exact⟨by rw[HU.o,if_pos trivial];rfl,zM _ _⟩
theorem tQ (l:List UInt8)(w:World)(hs:l.length<=1000000) :
  Calls Tryz.prog 119 #[.string (R.str l),.string ⟨#[42,46]⟩] w fun e w'=>e = .returned (.tuple #[.string (R.str (Tr.key l).1),.bool (Tr.key l).2])/\w.grownBy w' none:=by
 have HC:=hid (ziA l w hs)
 generalize Tr.key l=x at*
 go_enter Tryz.func119,Tryz.ntmps119
 go_wp2_with fail
 refine HC.o.mono ?_
 rintro e wX ⟨rfl,hg⟩
 go_wp2
 go_ret2
 exact⟨rfl,hg⟩
theorem zaP (l:List UInt8)(w:World)(hs:l.length<=1000000) :
  Calls Tryz.prog 78 #[.string (R.str l)] w fun e w'=>e = .returned (keyV (Tr.key l))/\w.grownBy w' none:=by
 have HC:Y (∀W,Calls Tryz.prog 119 #[.string (R.str l),.string ⟨#[42,46]⟩] W fun e w'=>e = .returned (.tuple #[.string (R.str (Tr.key l).1),.bool (Tr.key l).2])/\W.grownBy w' none):=fun W=>tQ l W hs
 generalize Tr.key l=x at*
 have GA:=hid (zJ w (.cells #[.string ⟨#[]⟩,.bool false] 163) none)
 have HB:=hid (heap_alloc_new w (.cells #[.string ⟨#[]⟩,.bool false] 163))
 go_enter Tryz.func78,Tryz.ntmps78
 go_upto_region 1 with fail
 generalize w.alloc (.cells #[.string ⟨#[]⟩,.bool false] 163)=wa at*
 go_wp2_with fail
 refine(HC.o _).mono ?_
 rintro e w1 ⟨rfl,g1⟩
 have aa:=hid (zB HB.o g1 (by simp))
 have G1:=hid (zA GA.o g1)
 have c0:w1.cell? ⟨w.heap.size,0,none⟩=some (.string ⟨#[]⟩):=z8 aa.o
 have c1:w1.cell? ⟨w.heap.size,1,none⟩=some (.bool false):=z8 aa.o
 have f0:=zrB 0 aa.o
 have f1:=zrB 1 aa.o
 have ab:Y (w.grownBy ((w1.setCell ⟨w.heap.size,0,none⟩ (.string (R.str x.1))).setCell ⟨w.heap.size,1,none⟩ (.bool x.2)) none):=zY (zY G1.o (zD _ _ _ _) (zZ _)) (zD _ _ _ _) (zZ _)
 have HQ:=hid (zF (i:=1) (zF (i:=0) aa.o (.string (R.str x.1))) (.bool x.2))
 have z0:((w1.setCell ⟨w.heap.size,0,none⟩ (.string (R.str x.1))).setCell ⟨w.heap.size,1,none⟩ (.bool x.2)).cell? ⟨w.heap.size,0,none⟩=some (.string (R.str x.1)):=z8 HQ.o
 have z1:((w1.setCell ⟨w.heap.size,0,none⟩ (.string (R.str x.1))).setCell ⟨w.heap.size,1,none⟩ (.bool x.2)).cell? ⟨w.heap.size,1,none⟩=some (.bool x.2):=z8 HQ.o
 clear HC g1 GA HB aa G1 HQ
 go_wp2
 (try simp only[Exit.inBlock,Exit.then])
 refine bodyPost_ret (v:=.agg #[.string (R.str x.1),.bool x.2]) (by simp[results,Tryz.results78,go_sem,z0,z1]) rfl ?_
 exact⟨rfl,ab.o⟩
def ratags:List TypeId:=297 :: prtags
def HostV (w:World)(v:Value)(h:P.Hst):Prop:=∃ra rk pa pk,v = .agg #[.slice ra h.rules.length rk,.slice pa (Tr.prog (h.rules.map (·.path))).length pk]/\PRulesRow w 0 (.slice ra h.rules.length rk) h.rules/\w.ownsRow 0 297 4 (.slice pa (Tr.prog (h.rules.map (·.path))).length pk) (Tr.prog (h.rules.map (·.path))).length (Tr.insCells (Tr.prog (h.rules.map (·.path))))
theorem HostV.keep {w w':World}{v:Value}{h:P.Hst}{row:Option Nat}(hv:HostV w v h)(g:w.grownBy w' row)(hs:Safe w row ratags):HostV w' v h:=by
 obtain⟨ra,rk,pa,pk,e,h1,h2⟩:=hv
 exact⟨ra,rk,pa,pk,e,h1.keep g (jM hs),xE h2 g hs (by decide)⟩
structure TabM (w:World) (mb:Nat) (l:List (HKey×Value)) (hs:List P.Hst):Prop where
 map:MapAt w mb l
 all:All2 (fun x h=>x.1=Tr.key h.name/\HostV w x.2 h) l hs
theorem TabM.grown {w w':World}{mb:Nat}{l:List (HKey×Value)}{hs:List P.Hst}(h:TabM w mb l hs)(g:w.grownBy w' none):TabM w' mb l hs:=
 ⟨h.map.keep g (by simp),h.all.map fun _ _ ⟨q1,q2⟩=>⟨q1,q2.keep g (zv _ _)⟩⟩
theorem zg7 {w:World}{mb:Nat}{l:List (HKey×Value)}(h:MapAt w mb l)(ts:List TypeId):Safe w (some mb) ts:=fun k c t f hk hb=>by
 cases hk
 obtain⟨es,cl,h1,_⟩:=h
 rw[h1] at hb;cases hb
structure Fit (h:P.Hst):Prop where
 name:h.name.length<=1000
 few:h.rules.length<=1000
 path:∀r∈h.rules,r.path.length<=50
 flat:(Tr.flat (h.rules.map (·.path))).length<=10000000
 fwd:Tr.fwd (Tr.prog (h.rules.map (·.path)))=true
 notes:(Tr.prog (h.rules.map (·.path))).all (fun x=>decide (x.kind≠0) || decide (x.rule<h.rules.length))=true
structure Fits (hs:List P.Hst):Prop where
 few:hs.length<=1000
 keys:(hs.map fun h=>Tr.key h.name).Pairwise (·≠·)
 hosts:∀h∈hs,Fit h
theorem Tr.key_le (l:List UInt8):(Tr.key l).1.length<=l.length:=by
 unfold Tr.key;split
 ·rw[List.length_drop];omega
 ·exact zZ _
theorem kw {α β:Type}{R:α->β->Prop}{l:List α}{m:List β}(h:All2 R l m):∀x∈l,∃y∈m,R x y:=by
 induction h with
 | nil=>intro x hx;simp at hx
 | cons hc _ ih=>
  intro x hx
  rcases List.mem_cons.1 hx with rfl | hx
  ·exact⟨_,List.mem_cons_self,hc⟩
  ·obtain⟨y,h1,h2⟩:=ih x hx
   exact⟨y,List.mem_cons_of_mem _ h1,h2⟩
theorem zjP {α β:Type}{R:α->β->Prop}{l:List α}{m:List β}(h:All2 R l m){x:α}{y:β}(aa:R x y):All2 R (l++[x]) (m++[y]):=by
 induction h with
 | nil=>exact All2.cons aa All2.nil
 | cons hc _ ih=>exact All2.cons hc ih
theorem Fits.fresh {hs:List P.Hst}(h:Fits hs)(j:Nat)(hj:j<hs.length):∀x∈hs.take j,Tr.key x.name≠Tr.key hs[j].name:=by
 intro x hx
 have h1:=h.keys
 have e:hs=hs.take j++hs.drop j:=(List.take_append_drop j hs).symm
 rw[e,xy,List.pairwise_append] at h1
 refine h1.2.2 _ (List.mem_map.2 ⟨x,hx,rfl⟩) _ ?_
 rw[List.drop_eq_getElem_cons hj,xi]
 exact List.mem_cons_self
theorem znE {w : World} {va : Option Addr} {vc : Nat} {hs : List P.Hst} (hr : PHostsRow w 0 (.slice va hs.length vc) hs) (hf : Fits hs) :
    Calls Tryz.prog 45 #[.agg #[.slice va hs.length vc]] w fun e w' => ∃ tb mb l, e = .returned (.pointer (some ⟨tb, 0, none⟩)) ∧ w'.heap[tb]? = some (.cells #[.map (some mb)] 166 (0, 0)) ∧ TabM w' mb l hs ∧ w.grownBy w' none := by
  obtain ⟨css, hrow, hall⟩ := hr
  have HRow := hid hrow
  have HAll := hid hall
  have HFt := hid hf
  have hfew := hf.few
  have gA := zJ w (.cells #[.slice va hs.length vc] 88) none
  have gB := zJ (w.alloc (.cells #[.slice va hs.length vc] 88)) (.map #[] 0) none
  have hmm := zqO
  have HBx := hid (heap_alloc_new w (.cells #[.slice va hs.length vc] 88))
  have HBx2 := hid (zB HBx.o gB (by simp))
  have a0 : (w.alloc (.cells #[.slice va hs.length vc] 88)).cell? ⟨w.heap.size, 0, none⟩ = some (.slice va hs.length vc) := z8 HBx.o
  have a1 : ((w.alloc (.cells #[.slice va hs.length vc] 88)).alloc (.map #[] 0)).cell? ⟨w.heap.size, 0, none⟩ = some (.slice va hs.length vc) := z8 HBx2.o
  have HZ : Y (TabM ((w.alloc (.cells #[.slice va hs.length vc] 88)).alloc (.map #[] 0)) (w.heap.size + 1) [] (hs.take 0) ∧ w.grownBy ((w.alloc (.cells #[.slice va hs.length vc] 88)).alloc (.map #[] 0)) none) := by
    refine ⟨⟨?_, All2.nil⟩, zA gA gB⟩
    have := MapAt.made (w.alloc (.cells #[.slice va hs.length vc] 88))
    have e : (w.alloc (.cells #[.slice va hs.length vc] 88)).heap.size = w.heap.size + 1 := by simp
    rw [e] at this; exact this
  have HAt : Y (hs.take hs.length = hs) := List.take_length
  clear hrow hall gA gB hf
  go_enter Tryz.func45, Tryz.ntmps45
  go_wp2_with fail
  go_loopw [13] (fun iv wr => ∃ j : Nat, j ≤ hs.length ∧ iv = .int .i64 j ∧ ∃ l, Y (TabM wr (w.heap.size + 1) l (hs.take j) ∧ w.grownBy wr none)) (fun iv _ => hs.length - (intOf iv).toNat)
  case atStart => exact ⟨0, zl _, rfl, [], HZ⟩
  case round =>
    obtain ⟨j, hjl, rfl, l, HW⟩ := hrel
    clear HZ HBx HBx2 a0 a1
    by_cases hlt : j < hs.length
    · have hjI : (j : Int) < hs.length := by omega
      obtain ⟨g, gc, e1, _, _⟩ := World.ownsRow.form HRow.o (by omega)
      simp only [qc, true_and] at e1
      obtain ⟨rfl, rfl⟩ := e1
      obtain ⟨cs, hcs, hget⟩ := kv HAll.o j hlt
      obtain ⟨vR, hcse, hrr⟩ := hcs
      obtain ⟨ra, rk, rfl⟩ : ∃ a k, vR = .slice a hs[j].rules.length k := by obtain ⟨c2, r1, _⟩ := hrr; exact zP r1
      have gw := HW.o.2
      have hcell : ∀ i, i < 2 → wr.cell? ⟨g, j * 2 + i, none⟩ = cs[i]? := fun i hi => by
        have hx : ∃ u, css.flatten[j * 2 + i]? = some u := by
          rw [hget i hi, hcse]
          match i, hi with
          | 0, _ => exact ⟨_, rfl⟩
          | 1, _ => exact ⟨_, rfl⟩
        obtain ⟨u, hu⟩ := hx
        have h0 : w.cell? ⟨g, j * 2 + i, none⟩ = some u := (xd HRow.o (j * 2 + i) (by omega)).trans hu
        rw [gw.cell (a := ⟨g, j * 2 + i, none⟩) h0 (by simp), ← hu, hget i hi]
      subst hcse
      have hft := HFt.o.hosts hs[j] (List.getElem_mem hlt)
      have hfr := HFt.o.fresh j hlt
      have HT : Y (hs.take (j + 1) = hs.take j ++ [hs[j]]) := by show _ = _; rw [List.take_add_one, qN hlt]; rfl
      have HKs : Y (∀ x ∈ l, x.1.1.length ≤ maxLen) := fun x hx => by
        obtain ⟨y, h1, h2, _⟩ := kw HW.o.1.all x hx
        have h3 := (HFt.o.hosts y (List.mem_of_mem_take h1)).name
        have h4 := Tr.key_le y.name
        rw [h2]; unfold maxLen; omega
      have HNw : Y (∀ x ∈ l, x.1 ≠ Tr.key hs[j].name) := fun x hx => by
        obtain ⟨y, h1, h2, _⟩ := kw HW.o.1.all x hx
        rw [h2]; exact hfr y h1
      generalize hs[j] = x at *
      have d0 : wr.cell? ⟨g, j * 2, none⟩ = some (.string (R.str x.name)) := hcell 0 (by omega)
      have d1 : wr.cell? ⟨g, j * 2 + 1, none⟩ = some (.slice ra x.rules.length rk) := hcell 1 (by omega)
      have GA := zJ wr (.cells #[.string (R.str x.name), .slice ra x.rules.length rk] 146) none
      have HB := hid (heap_alloc_new wr (.cells #[.string (R.str x.name), .slice ra x.rules.length rk] 146))
      have HW1 := hid (And.intro (HW.o.1.grown GA) (zA HW.o.2 GA))
      clear hcell hget gw GA HW
      go_upto_region 5 with fail
      generalize wr.alloc (.cells #[.string (R.str x.name), .slice ra x.rules.length rk] 146) = wa at *
      clear d0 d1
      have x0 : wa.cell? ⟨wr.heap.size, 0, none⟩ = some (.string (R.str x.name)) := z8 HB.o
      have x1 : wa.cell? ⟨wr.heap.size, 1, none⟩ = some (.slice ra x.rules.length rk) := z8 HB.o
      have hxn := hft.name
      have HKy : Y (∀ W, Calls Tryz.prog 78 #[.string (R.str x.name)] W fun e w' => e = .returned (.agg #[.string (R.str (Tr.key x.name).1), .bool (Tr.key x.name).2]) ∧ W.grownBy w' none) := fun W => zaP x.name W (by omega)
      have HPr : Y (∀ W, w.grownBy W none → Calls Tryz.prog 77 #[.slice ra x.rules.length rk] W fun e w' => ∃ a k, e = .returned (.slice a (Tr.prog (x.rules.map (·.path))).length k) ∧ Y (Rw W w' 297 4 a k (Tr.prog (x.rules.map (·.path))).length (Tr.insCells (Tr.prog (x.rules.map (·.path)))))) := fun W hW => tX (hrr.keep hW (zv _ _)) hft.few hft.path hft.flat
      have HUp : Y (∀ W a k, wa.grownBy W none → W.ownsRow 0 297 4 (.slice a (Tr.prog (x.rules.map (·.path))).length k) (Tr.prog (x.rules.map (·.path))).length (Tr.insCells (Tr.prog (x.rules.map (·.path)))) → ∃ w', (Instr.mapUpdate 156 (.map (some (w.heap.size + 1))) (.agg #[.string (R.str (Tr.key x.name).1), .bool (Tr.key x.name).2]) (.agg #[.slice ra x.rules.length rk, .slice a (Tr.prog (x.rules.map (·.path))).length k])).run Tryz.prog W = .ok () w' ∧ Y (∃ l', TabM w' (w.heap.size + 1) l' (hs.take (j + 1)) ∧ w.grownBy w' none)) := fun W a k hW ho => by
        have t1 := HW1.o.1.grown hW
        have hkl := Tr.key_le x.name
        obtain ⟨w', q1, q2, q3⟩ := t1.map.more HKs.o (Tr.key x.name) (by unfold maxLen; omega) HNw.o (.agg #[.slice ra x.rules.length rk, .slice a (Tr.prog (x.rules.map (·.path))).length k])
        have gW := zA HW1.o.2 hW
        have hv : HostV W (.agg #[.slice ra x.rules.length rk, .slice a (Tr.prog (x.rules.map (·.path))).length k]) x := ⟨ra, rk, a, k, rfl, hrr.keep gW (zv _ _), ho⟩
        refine ⟨w', q1, _, ⟨q2, ?_⟩, zY gW q3 (by omega)⟩
        rw [HT.o]
        exact zjP (t1.all.map fun _ _ ⟨p1, p2⟩ => ⟨p1, p2.keep q3 (zg7 t1.map _)⟩) ⟨rfl, hv.keep q3 (zg7 t1.map _)⟩
      have GW := hid HW1.o.2
      clear HKs HNw HT hfr hft HW1 HRow HAll hrr HAt HFt
      generalize Tr.key x.name = ky at *
      generalize Tr.prog (x.rules.map (·.path)) = pg at *
      go_region_law (first | (go_simp; go_at_call 78; refine (HKy.o _).mono ?_; rintro e wK ⟨rfl, gK⟩; have GK := hid (zA (zQ wa) gK); have HBK := hid (zB HB.o GK.o (by simp)); have y0 : wK.cell? ⟨wr.heap.size, 0, none⟩ = some (.string (R.str x.name)) := z8 HBK.o; have y1 : wK.cell? ⟨wr.heap.size, 1, none⟩ = some (.slice ra x.rules.length rk) := z8 HBK.o; clear gK) | (go_simp; go_at_call 77; refine (HPr.o _ (zA GW.o GK.o)).mono ?_; rintro e wP ⟨a, k, rfl, RP⟩; have GP := hid (zA GK.o RP.o.gr); have HBP := hid (zB HB.o GP.o (by simp)); have z0 : wP.cell? ⟨wr.heap.size, 0, none⟩ = some (.string (R.str x.name)) := z8 HBP.o; have z1 : wP.cell? ⟨wr.heap.size, 1, none⟩ = some (.slice ra x.rules.length rk) := z8 HBP.o; obtain ⟨wU, hU, HU⟩ := HUp.o wP a k GP.o (qK RP.o.own (zl _))))
      all_goals
        obtain ⟨l', h1, h2⟩ := HU.o
        have HW2 := hid (And.intro h1 h2)
        clear HU h1 h2 HKy HPr HUp
        go_wp2_with fail
        go_roundw
        case rel => exact ⟨j + 1, by omega, by go_num, l', HW2⟩
        case measure => simp [intOf]; omega
    · have hE : j = hs.length := by omega
      subst hE
      rw [HAt.o] at HW
      have gA := zJ wr (.cells #[.map (some (w.heap.size + 1))] 166) none
      have HEnd := hid (And.intro (heap_alloc_new wr (.cells #[.map (some (w.heap.size + 1))] 166)) (And.intro (HW.o.1.grown gA) (zA HW.o.2 gA)))
      clear HW gA
      go_wp2
      go_ret
      exact ⟨_, _, l, rfl, HEnd.o.1, HEnd.o.2.1, HEnd.o.2.2⟩
def Tr.ins1 (x:Nat):List Nat->List Nat
 | []=>[x]
 | y :: t=>if x<=y then x :: y :: t else y :: Tr.ins1 x t
def Tr.isort:List Nat->List Nat
 | []=>[]
 | x :: t=>Tr.ins1 x (Tr.isort t)
theorem Tr.ins1_perm (x:Nat)(l:List Nat):(Tr.ins1 x l).Perm (x :: l):=by
 induction l with
 | nil=>exact List.Perm.refl _
 | cons y t ih=>
  unfold Tr.ins1;split
  ·exact List.Perm.refl _
  ·exact(List.Perm.cons y ih).trans (List.Perm.swap x y t)
theorem Tr.isort_perm (l:List Nat):(Tr.isort l).Perm l:=by
 induction l with
 | nil=>exact List.Perm.refl _
 | cons x t ih=>exact(Tr.ins1_perm x _).trans (List.Perm.cons x ih)
theorem Tr.ins1_sorted (x:Nat)(l:List Nat)(h:l.Pairwise (·<=·)):(Tr.ins1 x l).Pairwise (·<=·):=by
 induction l with
 | nil=>simp[Tr.ins1]
 | cons y t ih=>
  obtain⟨h1,h2⟩:=List.pairwise_cons.1 h
  unfold Tr.ins1;split
  ·rename_i hxy
   exact List.pairwise_cons.2 ⟨fun z hz=>by rcases List.mem_cons.1 hz with rfl | hz;exact hxy;exact zp hxy (h1 z hz),h⟩
  ·rename_i hxy
   refine List.pairwise_cons.2 ⟨fun z hz=>?_,ih h2⟩
   rcases List.mem_cons.1 ((Tr.ins1_perm x t).mem_iff.1 hz) with rfl | hz
   ·omega
   ·exact h1 z hz
theorem Tr.isort_sorted (l:List Nat):(Tr.isort l).Pairwise (·<=·):=by
 induction l with
 | nil=>simp[Tr.isort]
 | cons x t ih=>exact Tr.ins1_sorted x _ ih
theorem kR:∀(a b:List Int),a.Perm b->a.Pairwise (·<=·)->b.Pairwise (·<=·)->a=b
 | [],b,h,_,_=>(List.Perm.nil_eq h)
 | x :: a,[],h,_,_=>by have:=h.length_eq;simp at this
 | x :: a,y :: b,h,ha,hb=>by
  obtain⟨h1,h2⟩:=List.pairwise_cons.1 ha
  obtain⟨h3,h4⟩:=List.pairwise_cons.1 hb
  have e:x=y:=by
   have m1:x∈y :: b:=h.mem_iff.1 List.mem_cons_self
   have m2:y∈x :: a:=h.mem_iff.2 List.mem_cons_self
   rcases List.mem_cons.1 m1 with e | m1
   ·exact e
   ·rcases List.mem_cons.1 m2 with e | m2
    ·exact e.symm
    ·have:=h1 y m2;have:=h3 x m1;omega
  subst e
  rw[kR a b (List.Perm.cons_inv h) h2 h4]
theorem zmT (l:List Nat):((l.map (fun n:Nat=>(n:Int))).mergeSort fun x y=>decide (x<=y))=(Tr.isort l).map (fun n:Nat=>(n:Int)):=by
 refine kR _ _ ((List.mergeSort_perm _ _).trans ((Tr.isort_perm l).symm.map _)) ?_ ?_
 ·have:=List.pairwise_mergeSort (le:=fun x y:Int=>decide (x<=y)) (fun a b c h1 h2=>by simp at *;omega) (fun a b=>by simp;omega) (l.map (fun n:Nat=>(n:Int)))
  exact this.imp (fun h=>by simpa using h)
 ·rw[List.pairwise_map]
  exact(Tr.isort_sorted l).imp (fun h=>by omega)
theorem Tr.isort_len (l:List Nat):(Tr.isort l).length=l.length:=(Tr.isort_perm l).length_eq
theorem zlO (d:List Int)(aa:Array Value)(h:d.length<=aa.size):((Go.Sort.putCells (Value.int .i64) 0 d.toArray aa).toList.take d.length)=d.map (Value.int .i64):=by
 apply List.ext_getElem?
 intro t
 rw[List.getElem?_take]
 by_cases ht:t<d.length
 ·rw[if_pos ht,List.getElem?_map,qN ht]
  simp only[Go.Sort.putCells,Array.getElem?_toList,Array.getElem?_mapIdx]
  rw[Array.getElem?_eq_getElem (by omega)]
  simp[ht]
 ·rw[if_neg ht,List.getElem?_eq_none (by simpa using ht)]
theorem zlC {w0 w:World}{a:Option Addr}{k:Nat}{l:List Nat}(h:Rw w0 w 3 1 a k l.length (Tr.ruCells l))(hl:l.length<=1000000000) :
  Calls Tryz.prog 242 #[.slice a l.length k] w fun e w'=>e = .returned (.tuple #[])/\Rw w0 w' 3 1 a k l.length (Tr.ruCells (Tr.isort l)):=by
 by_cases h0:l=[]
 ·subst h0
  exact(Any.slices_Sort_int_none Tryz.lays189 a k w).mono fun e w' ⟨q1,q2⟩=>⟨q1,by rw[q2];exact h⟩
 ·have ag:0<l.length:=List.length_pos_iff.2 h0
  obtain⟨g,gc,e1,_,_⟩:=World.ownsRow.form h.own ag
  simp only[qc,true_and] at e1
  obtain⟨rfl,rfl⟩:=e1
  have hg:=qh h.own g rfl
  have hH:Go.Sort.Holds (Value.int .i64) w g 0 (l.map (fun n:Nat=>(n:Int))).toArray:=by
   intro j hj
   have aa:j<l.length:=by simpa using hj
   rw[Nat.zero_add]
   refine⟨?_,World.ownsRow.frozenAt h.own j⟩
   rw[xd h.own j (by omega)]
   unfold Tr.ruCells
   rw[List.getElem?_map,qN aa,getElem!_pos _ j (by simpa using aa)]
   simp
  have hc:=Tryz.slices_Sort_int g 0 k (l.map (fun n:Nat=>(n:Int))) w hH hg.2 (by rw[qw];omega)
  rw[qw] at hc
  refine hc.mono ?_
  rintro e w' ⟨q1,n,os,q2⟩
  refine⟨q1,?_⟩
  rw[q2,zmT]
  have ab:w.grownBy (Go.Sort.grow (Go.Sort.putRow (Value.int .i64) (Go.Sort.ahead w n) g 0 ((Tr.isort l).map (fun n:Nat=>(n:Int))).toArray) os) (some g):=by
   refine⟨rfl,rfl,rfl,?_,?_⟩
   ·simp[Go.Sort.grow,Go.Sort.putRow,Go.Sort.mapBlock,Go.Sort.ahead]
   ·intro j hj ae
    have af:g≠j:=fun h=>ae (by rw[h])
    simp only[Go.Sort.grow,Go.Sort.putRow,Go.Sort.mapBlock,Go.Sort.ahead]
    rw[Array.getElem?_append_left (by simpa using hj),Array.getElem?_modify,if_neg af]
  refine⟨?_,zY h.gr ab hg.1⟩
  rcases h.own.2 with ⟨h1,_⟩ | ⟨g',c',cur,h1,hB,h2,h3,h4,h5,h6⟩
  ·cases h1
  ·simp only[qc,Option.some.injEq,Addr.mk.injEq] at h1
   obtain⟨⟨rfl,_⟩,_,rfl⟩:=h1
   refine⟨by unfold Tr.ruCells;rw[qw,Tr.isort_len,Nat.mul_one],Or.inr ⟨g,k,Go.Sort.putCells (Value.int .i64) 0 ((Tr.isort l).map (fun n:Nat=>(n:Int))).toArray cur,rfl,hB,?_,h3,h4,by simp[Go.Sort.putCells,h5],?_⟩⟩
   ·have ad:=zE h2
    simp only[Go.Sort.grow,Go.Sort.putRow,Go.Sort.mapBlock,Go.Sort.ahead]
    rw[Array.getElem?_append_left (by simpa using ad),Array.getElem?_modify,if_pos rfl,h2]
    rfl
   ·have hs:=zlO ((Tr.isort l).map (fun n:Nat=>(n:Int))) cur (by rw[qw,Tr.isort_len,h5];omega)
    rw[qw,Tr.isort_len] at hs
    unfold Tr.ruCells
    rw[Nat.mul_one]
    rw[hs,List.map_map]
    rfl
def Tr.byKey (hs:List P.Hst)(k:HKey):Option P.Hst:=hs.find? fun h=>decide (Tr.key h.name=k)
def Tr.wild (hs:List P.Hst):Nat->List UInt8->Option P.Hst
 | 0,_=>none
 | f+1,l=>if (Lib.cut l [46]).2.2 then (match Tr.byKey hs ((Lib.cut l [46]).2.1,true) with | some h=>some h | none=>Tr.wild hs f (Lib.cut l [46]).2.1) else none
def Tr.or2 (a b:Option P.Hst):Option P.Hst:=
 match a with
 | some h=>some h
 | none=>b
def Tr.hostOf (hs:List P.Hst)(name:List UInt8):Option P.Hst:=Tr.or2 (Tr.byKey hs (name,false)) (Tr.or2 (Tr.wild hs (name.length+1) name) (Tr.byKey hs (Tr.key [42])))
theorem zm8 {α β:Type}{R:α->β->Prop}{l:List α}{m:List β}(h:All2 R l m):∀x∈m,∃y∈l,R y x:=by
 induction h with
 | nil=>intro x hx;simp at hx
 | cons hc _ ih=>
  intro x hx
  rcases List.mem_cons.1 hx with rfl | hx
  ·exact⟨_,List.mem_cons_self,hc⟩
  ·obtain⟨y,h1,h2⟩:=ih x hx
   exact⟨y,List.mem_cons_of_mem _ h1,h2⟩
theorem zhK {hs:List P.Hst}(hk:(hs.map fun h=>Tr.key h.name).Pairwise (·≠·)){a:P.Hst}(ha:a∈hs):Tr.byKey hs (Tr.key a.name)=some a:=by
 unfold Tr.byKey
 induction hs with
 | nil=>simp at ha
 | cons x t ih=>
  rw[xi,List.pairwise_cons] at hk
  rcases List.mem_cons.1 ha with rfl | ha
  ·rw[List.find?_cons_of_pos (by simp)]
  ·rw[List.find?_cons_of_neg (by simpa using hk.1 _ (List.mem_map.2 ⟨a,ha,rfl⟩)),ih hk.2 ha]
theorem zlP {α β:Type}{l:List (α×β)}(h:(l.map Prod.fst).Pairwise (·≠·)){x y:α×β}(hx:x∈l)(hy:y∈l)(e:x.1=y.1):x=y:=by
 induction l with
 | nil=>simp at hx
 | cons a t ih=>
  rw[xi,List.pairwise_cons] at h
  rcases List.mem_cons.1 hx with rfl | hx
  ·rcases List.mem_cons.1 hy with rfl | hy
   ·rfl
   ·exact absurd e (h.1 _ (List.mem_map.2 ⟨y,hy,rfl⟩))
  ·have aa:=hx
   rcases List.mem_cons.1 hy with rfl | hy
   ·exact absurd e.symm (h.1 _ (List.mem_map.2 ⟨x,aa,rfl⟩))
   ·exact ih h.2 hx hy
theorem zjO {w:World}{l:List (HKey×Value)}{hs:List P.Hst}(h:All2 (fun x h=>x.1=Tr.key h.name/\HostV w x.2 h) l hs):l.map Prod.fst=hs.map fun h=>Tr.key h.name:=by
 induction h with
 | nil=>rfl
 | cons hc _ ih=>rw[xi,xi,ih,hc.1]
theorem TabM.ask {w:World}{mb:Nat}{l:List (HKey×Value)}{hs:List P.Hst}(h:TabM w mb l hs)(hf:Fits hs)(k:HKey)(hk:k.1.length<=maxLen) :
  ∃a1 n1 k1 b1 m1 q1 fl,(∀W:World,W.heap[mb]?=w.heap[mb]?->(Instr.lookup 156 (.map (some mb)) (.agg #[.string (R.str k.1),.bool k.2]) true).run Tryz.prog W = .ok (.tuple #[.agg #[.slice a1 n1 k1,.slice b1 m1 q1],.bool fl]) W)/\
   ((Tr.byKey hs k=none/\fl=false/\Value.agg #[.slice a1 n1 k1,.slice b1 m1 q1]=Value.agg #[.slice none 0 0,.slice none 0 0])\/∃x,Tr.byKey hs k=some x/\fl=true/\HostV w (.agg #[.slice a1 n1 k1,.slice b1 m1 q1]) x):=by
 have hl:∀x∈l,x.1.1.length<=maxLen:=fun x hx=>by
  obtain⟨y,h1,h2,_⟩:=kw h.all x hx
  have h3:=(hf.hosts y h1).name
  have h4:=Tr.key_le y.name
  rw[h2];unfold maxLen;omega
 have aa:(l.map Prod.fst).Pairwise (·≠·):=by rw[zjO h.all];exact hf.keys
 rcases h.map.look hl k hk with ⟨h1,_⟩ | ⟨x,h1,h2,_⟩
 ·refine⟨none,0,0,none,0,0,false,fun W hW=>?_,Or.inl ⟨?_,rfl,rfl⟩⟩
  ·rcases(h.map.same hW).look hl k hk with ⟨_,q⟩ | ⟨x,q1,q2,_⟩
   ·exact q
   ·exact absurd q2 (h1 x q1)
  ·unfold Tr.byKey
   rw[List.find?_eq_none]
   intro y hy
   obtain⟨x,q1,q2,_⟩:=zm8 h.all y hy
   have:=h1 x q1
   rw[q2] at this
   simpa using this
 ·obtain⟨y,q1,q2,q3⟩:=kw h.all x h1
  obtain⟨ra,rk,pa,pk,e,r1,r2⟩:=q3
  refine⟨ra,_,rk,pa,_,pk,true,fun W hW=>?_,Or.inr ⟨y,?_,rfl,⟨ra,rk,pa,pk,rfl,r1,r2⟩⟩⟩
  ·rcases(h.map.same hW).look hl k hk with ⟨q,_⟩ | ⟨x',p1,p2,p3⟩
   ·exact absurd h2 (q x h1)
   ·have e2:=zlP aa p1 h1 (p2.trans h2.symm)
    rw[e2,e] at p3
    exact p3
  ·rw[<-h2,q2]
   exact zhK hf.keys q1
theorem ze9 (l:List UInt8)(c:UInt8)(h:(Lib.cut l [c]).2.2=true):(Lib.cut l [c]).2.1.length<l.length:=by
 cases l with
 | nil=>exact absurd h (by simp[Lib.cut,Lib.index])
 | cons a t=>
  unfold Lib.cut at h ⊢
  split at h
  ·rename_i hi
   rw[if_pos hi]
   show((a :: t).drop _).length<_
   rw[List.length_drop]
   show _ - (_+1)<_
   simp only[zm]
   omega
  ·cases h
structure Wl (hs:List P.Hst) (res:Option P.Hst) (rest:List UInt8) (more:Bool):Prop where
 ex:∃c f,rest=(Lib.cut c [46]).2.1/\more=(Lib.cut c [46]).2.2/\c.length<=f/\Tr.wild hs (f+1) c=res
theorem Wl.start (hs:List P.Hst)(aa:List UInt8):Wl hs (Tr.wild hs (aa.length+1) aa) (Lib.cut aa [46]).2.1 (Lib.cut aa [46]).2.2:=⟨aa,aa.length,rfl,rfl,zZ _,rfl⟩
theorem Wl.no {hs:List P.Hst}{aa:Option P.Hst}{rest:List UInt8}(h:Wl hs aa rest false):aa=none:=by
 obtain⟨c,f,h1,h2,h3,h4⟩:=h.ex
 rw[<-h4,Tr.wild,if_neg (by rw[<-h2];decide)]
theorem Wl.hit {hs:List P.Hst}{aa:Option P.Hst}{rest:List UInt8}{x:P.Hst}(h:Wl hs aa rest true)(hb:Tr.byKey hs (rest,true)=some x):aa=some x:=by
 obtain⟨c,f,h1,h2,h3,h4⟩:=h.ex
 rw[<-h4,Tr.wild,if_pos h2.symm,<-h1,hb]
theorem Wl.go {hs:List P.Hst}{aa:Option P.Hst}{rest:List UInt8}(h:Wl hs aa rest true)(hb:Tr.byKey hs (rest,true)=none):Wl hs aa (Lib.cut rest [46]).2.1 (Lib.cut rest [46]).2.2:=by
 obtain⟨c,f,h1,h2,h3,h4⟩:=h.ex
 have hl:=ze9 c 46 h2.symm
 rw[<-h1] at hl
 obtain⟨f',rfl⟩:∃f',f=f'+1:=⟨f - 1,by omega⟩
 refine⟨rest,f',rfl,rfl,by omega,?_⟩
 rw[Tr.wild,if_pos h2.symm,<-h1,hb] at h4
 exact h4
def Tr.meas (rv mv:Value):Nat:=
 match mv,rv with
 | .bool true,.string s=>s.size+1
 | _,_=>0
theorem Tr.meas_no (rv:Value):Tr.meas rv (.bool false)=0:=rfl
theorem Tr.meas_yes (l:List UInt8):Tr.meas (.string (R.str l)) (.bool true)=l.length+1:=by show(R.str l).size+1=_;rw[R.str_size]
end Go.Proofs.YtfocdefchbnkpaaGreatDoor
