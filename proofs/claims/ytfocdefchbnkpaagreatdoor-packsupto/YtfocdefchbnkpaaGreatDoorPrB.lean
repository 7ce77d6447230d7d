/- Packing, as the document's own functions do it: a rule. -/
import Derived.Test.YtfocdefchbnkpaaGreatDoorAli
import Derived.Test.YtfocdefchbnkpaaGreatDoorPrA
import Derived.Deep.DeepCutAuto
set_option maxRecDepth 100000
set_option maxHeartbeats 20000000
namespace Go.Proofs.YtfocdefchbnkpaaGreatDoor
open Go.RowKit
theorem Rd.some {w:World}{v:Value}{l:List UInt8}(h:Rd w v l)(hl:l≠[]):∃g c,v = .slice (some ⟨g,0,none⟩) l.length c/\g<w.heap.size/\∀j u,(Lib.byteCells l)[j]? = .some u->w.cell? ((⟨g,0,none⟩:Addr).add j) = .some u:=by
 rcases h with ⟨_,h⟩ | h
 ·exact absurd h hl
 ·exact h
theorem kF (l:List UInt8):zJ l≠[]:=by unfold zJ;simp
theorem zt3 (n:Int):qe n≠[]:=by unfold qe;simp
theorem jY (l:List UInt8)(w:World)(hl:l.length<=255):Calls Tryz.prog 137 #[.string (R.str l)] w (Gives w (zJ l)):=by
 have h:=zpX (R.str l) w (by have:(R.str l).size=l.length:=R.str_size l;omega)
 rw[R.str_toList] at h;exact h
structure BR (r:R.Rl):Prop where
 num:0<=r.number/\r.number<=65535
 path:r.path.length<=24
 ms:r.ms.length<=3/\∀m∈r.ms,m.name.length<=24/\m.val.length<=24
 tg:r.tg.length<=4/\∀t∈r.tg,t.1.length<=24/\0<=t.2/\t.2<=65535
 too:r.to.length<=24
 sets:r.sets.length<=3/\∀t∈r.sets,t.1.length<=24/\t.2.length<=24
 drops:r.drops.length<=3/\∀t∈r.drops,t.length<=24
def cat {α:Type}(pre:List UInt8)(f:α->List UInt8)(l:List α)(i:Nat):List UInt8:=pre++((l.take i).map f).flatten
theorem zdB {α:Type}(aa:List UInt8)(f:α->List UInt8)(l:List α):cat aa f l 0=aa:=by simp[cat]
theorem zmA {α:Type}(aa:List UInt8)(f:α->List UInt8)(l:List α):cat aa f l l.length=aa++(l.map f).flatten:=by simp[cat]
theorem zdF {α:Type}(aa:List UInt8)(f:α->List UInt8)(l:List α)(i:Nat)(h:i<l.length):cat aa f l (i+1)=cat aa f l i++f l[i]:=by
 unfold cat;rw[List.take_add_one,xo h,fJ,yj,Option.toList_some];simp only[xl,List.map_nil,zf7,List.flatten_nil,zb3,x4]
theorem zm2 {α:Type}(aa:List UInt8)(f:α->List UInt8)(l:List α)(b:Nat)(hb:∀x∈l,(f x).length<=b)(i:Nat)(h:i<=l.length):(cat aa f l i).length<=aa.length+b*i:=by
 induction i with
 | zero=>rw[zdB];omega
 | succ i ih=>
  have h1:=ih (by omega)
  have h2:=hb l[i] (List.getElem_mem (by omega))
  rw[zdF aa f l i (by omega),zh,Nat.mul_succ];omega
theorem zsY {α:Type}(f:α->List UInt8)(l:List α):zQ f l=UInt8.ofNat l.length :: (l.map f).flatten:=rfl
theorem hid {p:Prop}(h:p):Y p:=h
structure Bt (w0 w:World) (a:Option Addr) (k:Nat) (l tot r:List UInt8) (N:Nat):Prop where
 own:w.ownsRow w0.heap.size 5 1 (.slice a l.length k) l.length (Lib.byteCells l)
 gr:w0.grownBy w none
 len:l.length<=N
 eq:tot=l++r
theorem Bt.keep {w0 w w':World}{a:Option Addr}{k:Nat}{l aa r:List UInt8}{N:Nat}(h:Bt w0 w a k l aa r N)(g:w.grownBy w' none):Bt w0 w' a k l aa r N:=
 ⟨zV h.own g (fun k hk c=>by cases c),zD h.gr g,h.len,h.eq⟩
theorem Bt.to {w0 w:World}{a:Option Addr}{k:Nat}{l aa r r':List UInt8}{N N':Nat}(h:Bt w0 w a k l aa r N)(e:r=r')(hN:N<=N'):Bt w0 w a k l aa r' N':=
 ⟨h.own,h.gr,qf h.len hN,by rw[<-e];exact h.eq⟩
theorem qS {w w0:World}{ab:Array Oper}{rest:List Oper}{o:Oper}{ac:Act}{Q:Exit->Act->World->Prop}(af:o.guard=none)(s x:Operand)
  (ho:o.op = .call { callee:=.builtin .append,args:=#[s,x],argTypes:=#[32,32] }) {a:Option Addr} {k:Nat} {l:List UInt8} (y:List UInt8) {r ae:List UInt8} {ys:List Value} {N:Nat}
  (hs:ac.eval s = .slice a l.length k) (h:Bt w0 w a k l ae (y++r) N) (ad:Addr) (m c:Nat) (hx:ac.eval x = .slice (some ad) m c) (hm:m=y.length) (hy:Lib.byteCells y=ys)
  (hc:∀j u,ys[j]?=some u->w.cell? (ad.add j)=some u) (hl:y.length<=60) (hN:N<=1000000000)
  (hK:∀a' k' w' l',Y (Bt w0 w' a' k' l' ae r (N+60))->wpList Tryz.prog ab Q rest (ac.put o.dst (.slice a' l'.length k')) w'):wpList Tryz.prog ab Q (o :: rest) ac w:=by
 obtain⟨i0,hi,ah,ai,aj⟩:=info_parts js
 subst hm hy
 have ak:=h.len
 refine wpList_append_own w af s x 32 ho w0.heap.size 5 i0 _ 1 1 Tryz.underlying32 hi ah ai aj rfl (by decide) _ _ _ hs h.own ad y.length c (Lib.byteCells y) hx (by rw[xh,Nat.mul_one]) hc (vf y) (by unfold maxLen;omega) (by omega) h.gr.size ?_
 intro v' w' aa ag _
 obtain⟨a',k',rfl⟩:=zO aa
 have e:l.length+y.length=(l++y).length:=by rw[zh]
 rw[e] at aa ⊢
 refine hK a' k' w' (l++y) ⟨by rw[Lib.byteCells_append];exact aa,qV h.gr ag (fun k hk=>(zx h.own k hk).1),by rw[zh];omega,by rw[h.eq,x4]⟩
def yu {α:Type}(f:α->List UInt8)(l:List α)(i:Nat):List UInt8:=((l.drop i).map f).flatten
theorem fv {α:Type}(f:α->List UInt8)(l:List α)(i:Nat)(h:i<l.length)(r:List UInt8):yu f l i++r=f l[i]++(yu f l (i+1)++r):=by
 unfold yu;rw[List.drop_eq_getElem_cons h,xl,zf7,x4]
theorem tX {α:Type}(f:α->List UInt8)(l:List α)(r:List UInt8):yu f l l.length++r=r:=by unfold yu;rw[List.drop_length];rfl
theorem ze8 {w:World}(cs:List Value)(r:R.Rl)(hr:RuleVal w cs r)(hb:BR r) :
  Calls Tryz.prog 138 #[.agg cs.toArray] w (Gives w (qt r)):=by
 obtain⟨vM,vT,vS,vD,rfl,hM,bc,hS,hD⟩:=hr
 obtain⟨m1,m2,rfl⟩:=zO hM
 obtain⟨t1,t2,rfl⟩:=zO bc
 obtain⟨x1,x2,rfl⟩:=zO hS
 obtain⟨d1,d2,rfl⟩:=zO hD
 have gA:w.grownBy (w.alloc (.cells #[.int .i64 r.number,.string (R.str r.path),.slice m1 r.ms.length m2,.slice t1 r.tg.length t2,.bool r.change,.string (R.str r.to),.slice x1 r.sets.length x2,.slice d1 r.drops.length d2] 126)) none:=zL _ _ _
 have ab:Y ((w.alloc (.cells #[.int .i64 r.number,.string (R.str r.path),.slice m1 r.ms.length m2,.slice t1 r.tg.length t2,.bool r.change,.string (R.str r.to),.slice x1 r.sets.length x2,.slice d1 r.drops.length d2] 126)).heap[w.heap.size]?=some (.cells #[.int .i64 r.number,.string (R.str r.path),.slice m1 r.ms.length m2,.slice t1 r.tg.length t2,.bool r.change,.string (R.str r.to),.slice x1 r.sets.length x2,.slice d1 r.drops.length d2] 126)):=heap_alloc_new _ _
 have bL:=hid gA
 have HM:=hid (zV hM gA (fun k hk c=>by cases c))
 have aO:=hid (zV bc gA (fun k hk c=>by cases c))
 have aN:=hid (zV hS gA (fun k hk c=>by cases c))
 have aW:=hid (strRow1 (zV hD gA (fun k hk c=>by cases c)))
 have d9:=hb.path
 have d8:=hb.ms.1
 have eb:=hb.tg.1
 have ec:=hb.too
 have ea:=hb.sets.1
 have dX:=hb.drops.1
 have bZ:=hid hb.ms.2
 have b1:=hid hb.tg.2
 have b0:=hid hb.sets.2
 have bY:=hid hb.drops.2
 have bO:Y (qt r=qe r.number++(zJ r.path++(UInt8.ofNat r.ms.length :: (yu wn r.ms 0++(UInt8.ofNat r.tg.length :: (yu K.tg r.tg 0++(tF r++(UInt8.ofNat r.sets.length :: (yu K.st r.sets 0++(UInt8.ofNat r.drops.length :: yu zJ r.drops 0)))))))))):=by
  show _=_
  unfold qt zQ yu;simp only[List.cons_append,List.drop_zero]
 have bM:=hid hb.num
 clear hM bc hS hD hb gA
 generalize qt r=tot at*
 have c0:=zuE ab.o
 go_enter Tryz.func138,Tryz.ntmps138
 go_wp2_with fail
 generalize(w.alloc (.cells #[.int .i64 r.number,.string (R.str r.path),.slice m1 r.ms.length m2,.slice t1 r.tg.length t2,.bool r.change,.string (R.str r.to),.slice x1 r.sets.length x2,.slice d1 r.drops.length d2] 126))=wa at*
 refine(zhQ r.number wa bM.o).mono ?_
 rintro e w0 ⟨a0,k0,rfl,h0,g0⟩
 have B0:Y (Bt wa w0 a0 k0 (qe r.number) tot _ 60):=⟨h0,g0,by rw[kU];omega,bO.o⟩
 clear h0 g0 c0 bM bO
 generalize qe r.number=l0 at*
 have eE:w0.cell? ⟨w.heap.size,1,none⟩=some (.string (R.str r.path)):=zB (zF ab.o B0.o.gr (by simp))
 go_wp2_with fail
 refine(jY r.path w0 (by omega)).mono ?_
 rintro e eY ⟨dq,ed,rfl,cl,cd⟩
 obtain⟨c9,dH,b5,dY,ax⟩:=Rd.some (Rd.of_row cl) (kF _)
 simp only[qQ,true_and] at b5
 obtain⟨rfl,rfl⟩:=b5
 have bi:=hid (B0.o.keep cd)
 have bw:=hid ax
 clear cl cd ax B0
 have cE:((zJ r.path)).length<=60:=by rw[qw];omega
 go_wp2_with (at_builtin;refine @qS _ _ _ _ _ _ _ rfl _ _ rfl _ _ _ (zJ r.path) _ _ _ _ rfl bi.o ⟨c9,0,none⟩ _ _ rfl rfl (rfl) bw.o cE (by omega) ?_)
 intro a1 k1 w1 l1 B1
 clear bi bw cE
 have eF:w1.cell? ⟨w.heap.size,2,none⟩=some (.slice m1 r.ms.length m2):=zB (zF ab.o B1.o.gr (by simp))
 have bj:=hid (B1.o.keep (zL _ (.cells #[.int .u8 ↑r.ms.length] 5) none))
 have bx:=hid (zu w1 #[.int .u8 ↑r.ms.length] 5 _ rfl)
 have bQ:Y (Lib.byteCells ([UInt8.ofNat r.ms.length])=[.int .u8 ↑r.ms.length]):=by show _=_;first | rfl | (unfold Lib.byteCells;simp only[xl,List.map_nil];rw[u8n _ (by omega)])
 clear B1
 have cF:(([UInt8.ofNat r.ms.length])).length<=60:=by simp
 go_wp2_with (at_builtin;refine @qS _ _ _ _ _ _ _ rfl _ _ rfl _ _ _ ([UInt8.ofNat r.ms.length]) _ _ _ _ rfl bj.o ⟨w1.heap.size,0,none⟩ _ _ rfl rfl (bQ.o) bx.o cF (by omega) ?_)
 intro a2 k2 w2 l2 B2
 clear bj bx cF bQ
 obtain⟨aC,aZ⟩:∃re,Y (re=UInt8.ofNat r.tg.length :: (yu K.tg r.tg 0++(tF r++(UInt8.ofNat r.sets.length :: (yu K.st r.sets 0++(UInt8.ofNat r.drops.length :: yu zJ r.drops 0)))))):=⟨_,hid rfl⟩
 rw[<-aZ.o] at B2
 have cB:Y (Bt wa w2 a2 k2 l2 tot (yu wn r.ms 0++aC) (180+180*0)):=B2
 clear B2
 go_wp2_with fail
 go_loopw [3,4] (fun sv iv wr=>∃i:Nat,i<=r.ms.length/\iv = .int .i64 i/\∃a k l,sv = .slice a l.length k/\Y (Bt wa wr a k l tot (yu wn r.ms i++aC) (180+180*i))) (fun _ iv _=>r.ms.length - (intOf iv).toNat)
 case atStart=>exact⟨0,zo _,rfl,_,_,_,rfl,cB⟩
 case round=>
  obtain⟨i,ah,rfl,a8,bf,li,rfl,ai⟩:=hrel
  clear cB
  generalize wr=wRm at*
  by_cases aa:i<r.ms.length
  ·have be:(i:Int)<r.ms.length:=by omega
   obtain⟨gm,a9,ae,_,bd⟩:=World.ownsRow.form HM.o (by omega)
   simp only[qQ] at ae
   obtain⟨rfl,_,rfl⟩:=ae
   have aP:=bZ.o r.ms[i] (List.getElem_mem aa)
   cases hask:r.ms[i].ask
   ·
    have af:Y (Bt wa wRm a8 bf li tot (zJ r.ms[i].name++(0 :: (yu wn r.ms (i+1)++aC))) (180+180*i)):=ai.o.to (by rw[fv wn _ i aa];unfold wn;simp[hask]) (zw _)
    clear ai
    have eO:wRm.cell? ⟨w.heap.size,2,none⟩=some (.slice (some ⟨gm,0,none⟩) r.ms.length m2):=zB (zF ab.o af.o.gr (by simp))
    have dQ:wRm.cell? ⟨gm,i*3,none⟩=some (.string (R.str r.ms[i].name)):=qx R.Mt.cells 3 (fun _=>rfl) HM.o af.o.gr i 0 aa (by omega) rfl
    go_wp2_with fail
    refine(jY r.ms[i].name wRm (by omega)).mono ?_
    rintro e e0 ⟨ds,ef,rfl,cn,cf⟩
    obtain⟨db,dJ,b7,d0,ct⟩:=Rd.some (Rd.of_row cn) (kF _)
    simp only[qQ,true_and] at b7
    obtain⟨rfl,rfl⟩:=b7
    have bp:=hid (af.o.keep cf)
    have bE:=hid ct
    clear cn cf ct af
    have cL:((zJ r.ms[i].name)).length<=60:=by rw[qw];omega
    go_wp2_with (at_builtin;refine @qS _ _ _ _ _ _ _ rfl _ _ rfl _ _ _ (zJ r.ms[i].name) _ _ _ _ rfl bp.o ⟨db,0,none⟩ _ _ rfl rfl (rfl) bE.o cL (by omega) ?_)
    intro dA en aT ex aJ
    clear bp bE cL
    have eP:aT.cell? ⟨w.heap.size,2,none⟩=some (.slice (some ⟨gm,0,none⟩) r.ms.length m2):=zB (zF ab.o aJ.o.gr (by simp))
    have c7:aT.cell? ⟨gm,i*3+2,none⟩=some (.bool r.ms[i].ask):=qx R.Mt.cells 3 (fun _=>rfl) HM.o aJ.o.gr i 2 aa (by omega) rfl
    rw[hask] at c7
    have bq:=hid (aJ.o.keep (zL _ (.cells #[.int .u8 0] 5) none))
    have bF:=hid (zu aT #[.int .u8 0] 5 _ rfl)
    have bV:Y (Lib.byteCells ([0])=[.int .u8 0]):=by show _=_;first | rfl | (unfold Lib.byteCells;simp only[xl,List.map_nil];rw[u8n _ (by omega)])
    clear aJ
    have cM:(([0])).length<=60:=by simp
    go_wp2_with (at_builtin;refine @qS _ _ _ _ _ _ _ rfl _ _ rfl _ _ _ ([0]) _ _ _ _ rfl bq.o ⟨aT.heap.size,0,none⟩ _ _ rfl rfl (bV.o) bF.o cM (by omega) ?_)
    intro dB eo e8 ey cY
    clear bq bF cM bV
    go_wp2_with fail
    go_roundw
    case rel=>exact⟨i+1,by omega,by go_num,_,_,_,rfl,cY.o.to rfl (by omega)⟩
    case measure=>simp[intOf];omega
   ·
    have af:Y (Bt wa wRm a8 bf li tot (zJ r.ms[i].name++(1 :: (zJ r.ms[i].val++(yu wn r.ms (i+1)++aC)))) (180+180*i)):=ai.o.to (by rw[fv wn _ i aa];unfold wn;simp[hask]) (zw _)
    clear ai
    have eQ:wRm.cell? ⟨w.heap.size,2,none⟩=some (.slice (some ⟨gm,0,none⟩) r.ms.length m2):=zB (zF ab.o af.o.gr (by simp))
    have dR:wRm.cell? ⟨gm,i*3,none⟩=some (.string (R.str r.ms[i].name)):=qx R.Mt.cells 3 (fun _=>rfl) HM.o af.o.gr i 0 aa (by omega) rfl
    go_wp2_with fail
    refine(jY r.ms[i].name wRm (by omega)).mono ?_
    rintro e e1 ⟨dt,eg,rfl,co,cg⟩
    obtain⟨dc,dK,b8,d3,cu⟩:=Rd.some (Rd.of_row co) (kF _)
    simp only[qQ,true_and] at b8
    obtain⟨rfl,rfl⟩:=b8
    have br:=hid (af.o.keep cg)
    have bG:=hid cu
    clear co cg cu af
    have cN:((zJ r.ms[i].name)).length<=60:=by rw[qw];omega
    go_wp2_with (at_builtin;refine @qS _ _ _ _ _ _ _ rfl _ _ rfl _ _ _ (zJ r.ms[i].name) _ _ _ _ rfl br.o ⟨dc,0,none⟩ _ _ rfl rfl (rfl) bG.o cN (by omega) ?_)
    intro dC ep aU ez aK
    clear br bG cN
    have eR:aU.cell? ⟨w.heap.size,2,none⟩=some (.slice (some ⟨gm,0,none⟩) r.ms.length m2):=zB (zF ab.o aK.o.gr (by simp))
    have c8:aU.cell? ⟨gm,i*3+2,none⟩=some (.bool r.ms[i].ask):=qx R.Mt.cells 3 (fun _=>rfl) HM.o aK.o.gr i 2 aa (by omega) rfl
    rw[hask] at c8
    have bs:=hid (aK.o.keep (zL _ (.cells #[.int .u8 1] 5) none))
    have bH:=hid (zu aU #[.int .u8 1] 5 _ rfl)
    have bW:Y (Lib.byteCells ([1])=[.int .u8 1]):=by show _=_;first | rfl | (unfold Lib.byteCells;simp only[xl,List.map_nil];rw[u8n _ (by omega)])
    clear aK
    have cO:(([1])).length<=60:=by simp
    go_wp2_with (at_builtin;refine @qS _ _ _ _ _ _ _ rfl _ _ rfl _ _ _ ([1]) _ _ _ _ rfl bs.o ⟨aU.heap.size,0,none⟩ _ _ rfl rfl (bW.o) bH.o cO (by omega) ?_)
    intro dD er bg eA aL
    clear bs bH cO bW
    have eS:bg.cell? ⟨w.heap.size,2,none⟩=some (.slice (some ⟨gm,0,none⟩) r.ms.length m2):=zB (zF ab.o aL.o.gr (by simp))
    have dS:bg.cell? ⟨gm,i*3+1,none⟩=some (.string (R.str r.ms[i].val)):=qx R.Mt.cells 3 (fun _=>rfl) HM.o aL.o.gr i 1 aa (by omega) rfl
    go_wp2_with fail
    refine(jY r.ms[i].val bg (by omega)).mono ?_
    rintro e e2 ⟨du,eh,rfl,cp,ch⟩
    obtain⟨dd,dL,b9,d4,cv⟩:=Rd.some (Rd.of_row cp) (kF _)
    simp only[qQ,true_and] at b9
    obtain⟨rfl,rfl⟩:=b9
    have bt:=hid (aL.o.keep ch)
    have bI:=hid cv
    clear cp ch cv aL
    have cP:((zJ r.ms[i].val)).length<=60:=by rw[qw];omega
    go_wp2_with (at_builtin;refine @qS _ _ _ _ _ _ _ rfl _ _ rfl _ _ _ (zJ r.ms[i].val) _ _ _ _ rfl bt.o ⟨dd,0,none⟩ _ _ rfl rfl (rfl) bI.o cP (by omega) ?_)
    intro dE es e9 eB cZ
    clear bt bI cP
    go_wp2_with fail
    go_roundw
    case rel=>exact⟨i+1,by omega,by go_num,_,_,_,rfl,cZ.o.to rfl (by omega)⟩
    case measure=>simp[intOf];omega
  ·have hE:i=r.ms.length:=by omega
   subst hE
   have ao:Y (Bt wa wRm a8 bf li tot aC 720):=ai.o.to (tX _ _ _) (by omega)
   clear ai aa ah HM bZ
   rw[aZ.o] at ao
   clear aZ
   have eG:wRm.cell? ⟨w.heap.size,2,none⟩=some (.slice m1 r.ms.length m2):=zB (zF ab.o ao.o.gr (by simp))
   have eH:wRm.cell? ⟨w.heap.size,3,none⟩=some (.slice t1 r.tg.length t2):=zB (zF ab.o ao.o.gr (by simp))
   have bk:=hid (ao.o.keep (zL _ (.cells #[.int .u8 ↑r.tg.length] 5) none))
   have bz:=hid (zu wRm #[.int .u8 ↑r.tg.length] 5 _ rfl)
   have bR:Y (Lib.byteCells ([UInt8.ofNat r.tg.length])=[.int .u8 ↑r.tg.length]):=by show _=_;first | rfl | (unfold Lib.byteCells;simp only[xl,List.map_nil];rw[u8n _ (by omega)])
   clear ao
   have cG:(([UInt8.ofNat r.tg.length])).length<=60:=by simp
   go_wp2_with (at_builtin;refine @qS _ _ _ _ _ _ _ rfl _ _ rfl _ _ _ ([UInt8.ofNat r.tg.length]) _ _ _ _ rfl bk.o ⟨wRm.heap.size,0,none⟩ _ _ rfl rfl (bR.o) bz.o cG (by omega) ?_)
   intro a3 k3 w3 l3 B3
   clear bk bz cG bR
   obtain⟨aS,a7⟩:∃re,Y (re=tF r++(UInt8.ofNat r.sets.length :: (yu K.st r.sets 0++(UInt8.ofNat r.drops.length :: yu zJ r.drops 0)))):=⟨_,hid rfl⟩
   rw[<-a7.o] at B3
   have cD:Y (Bt wa w3 a3 k3 l3 tot (yu K.tg r.tg 0++aS) (780+180*0)):=B3
   clear B3
   go_wp2_with fail
   go_loopw [3,5] (fun sv iv wr=>∃i:Nat,i<=r.tg.length/\iv = .int .i64 i/\∃a k l,sv = .slice a l.length k/\Y (Bt wa wr a k l tot (yu K.tg r.tg i++aS) (780+180*i))) (fun _ iv _=>r.tg.length - (intOf iv).toNat)
   case atStart=>exact⟨0,zo _,rfl,_,_,_,rfl,cD⟩
   case round=>
    obtain⟨i,ah,rfl,b4,cU,li,rfl,aF⟩:=hrel
    clear cD
    generalize wr=wRt at*
    by_cases aa:i<r.tg.length
    ·have be:(i:Int)<r.tg.length:=by omega
     obtain⟨gm,a9,ae,_,bd⟩:=World.ownsRow.form aO.o (by omega)
     simp only[qQ] at ae
     obtain⟨rfl,_,rfl⟩:=ae
     have aP:=b1.o r.tg[i] (List.getElem_mem aa)
     have aI:Y (Bt wa wRt b4 cU li tot (zJ r.tg[i].1++(qe r.tg[i].2++(yu K.tg r.tg (i+1)++aS))) (780+180*i)):=aF.o.to (by rw[fv K.tg _ i aa];unfold K.tg;simp[]) (zw _)
     clear aF
     have eV:wRt.cell? ⟨w.heap.size,3,none⟩=some (.slice (some ⟨gm,0,none⟩) r.tg.length t2):=zB (zF ab.o aI.o.gr (by simp))
     have dV:wRt.cell? ⟨gm,i*2,none⟩=some (.string (R.str r.tg[i].1)):=qx (fun t:List UInt8×Int=>[Value.string (R.str t.1),.int .i64 t.2]) 2 (fun _=>rfl) aO.o aI.o.gr i 0 aa (by omega) rfl
     go_wp2_with fail
     refine(jY r.tg[i].1 wRt (by omega)).mono ?_
     rintro e e5 ⟨dx,ek,rfl,cz,ck⟩
     obtain⟨dg,dO,cc,d7,cy⟩:=Rd.some (Rd.of_row cz) (kF _)
     simp only[qQ,true_and] at cc
     obtain⟨rfl,rfl⟩:=cc
     have al:=hid (aI.o.keep ck)
     have aq:=hid cy
     clear cz ck cy aI
     have aA:((zJ r.tg[i].1)).length<=60:=by rw[qw];omega
     go_wp2_with (at_builtin;refine @qS _ _ _ _ _ _ _ rfl _ _ rfl _ _ _ (zJ r.tg[i].1) _ _ _ _ rfl al.o ⟨dg,0,none⟩ _ _ rfl rfl (rfl) aq.o aA (by omega) ?_)
     intro c4 dj ak dl ag
     clear al aq aA
     have eW:ak.cell? ⟨w.heap.size,3,none⟩=some (.slice (some ⟨gm,0,none⟩) r.tg.length t2):=zB (zF ab.o ag.o.gr (by simp))
     have dW:ak.cell? ⟨gm,i*2+1,none⟩=some (.int .i64 r.tg[i].2):=qx (fun t:List UInt8×Int=>[Value.string (R.str t.1),.int .i64 t.2]) 2 (fun _=>rfl) aO.o ag.o.gr i 1 aa (by omega) rfl
     go_wp2_with fail
     refine(zhQ r.tg[i].2 ak aP.2).mono ?_
     rintro e dn ⟨c3,di,rfl,az,aw⟩
     obtain⟨ba,c6,av,dh,ay⟩:=Rd.some (Rd.of_row az) (zt3 _)
     simp only[qQ,true_and] at av
     obtain⟨rfl,rfl⟩:=av
     have am:=hid (ag.o.keep aw)
     have ar:=hid ay
     clear az aw ay ag
     have aB:((qe r.tg[i].2)).length<=60:=by rw[kU];omega
     go_wp2_with (at_builtin;refine @qS _ _ _ _ _ _ _ rfl _ _ rfl _ _ _ (qe r.tg[i].2) _ _ _ _ rfl am.o ⟨ba,0,none⟩ _ _ rfl rfl (rfl) ar.o aB (by omega) ?_)
     intro c5 dk dp dm aV
     clear am ar aB
     go_wp2_with fail
     go_roundw
     case rel=>exact⟨i+1,by omega,by go_num,_,_,_,rfl,aV.o.to rfl (by omega)⟩
     case measure=>simp[intOf];omega
    ·have hE:i=r.tg.length:=by omega
     subst hE
     have ad:Y (Bt wa wRt b4 cU li tot aS 1500):=aF.o.to (tX _ _ _) (by omega)
     clear aF aa ah aO b1
     rw[a7.o] at ad
     clear a7
     have eI:wRt.cell? ⟨w.heap.size,3,none⟩=some (.slice t1 r.tg.length t2):=zB (zF ab.o ad.o.gr (by simp))
     have au:Y (∀b,r.change=b->tF r=if b then 1 :: zJ r.to else [0]):=by
      intro b hb
      unfold tF;rw[hb]
     have cV:wRt.cell? ⟨w.heap.size,4,none⟩=some (.bool r.change):=zB (zF ab.o ad.o.gr (by simp))
     obtain⟨bb,aj⟩:∃bb,Y (r.change=bb):=⟨_,hid rfl⟩
     rw[aj.o] at cV
     go_upto_if 93 with fail
     go_cut [3] (fun sv wx=>∃a k l,sv = .slice a l.length k/\Y (Bt wa wx a k l tot (UInt8.ofNat r.sets.length :: (yu K.st r.sets 0++(UInt8.ofNat r.drops.length :: yu zJ r.drops 0))) 1620))
     case first=>
      rcases Bool.eq_false_or_eq_true bb with hbb | hbb
      ·
       subst hbb
       have bP:=au.o true aj.o
       rw[bP] at ad
       clear bP au aj
       rw[if_pos rfl,List.cons_append] at ad
       have al:=hid (ad.o.keep (zL _ (.cells #[.int .u8 1] 5) none))
       have aq:=hid (zu wRt #[.int .u8 1] 5 _ rfl)
       have bX:Y (Lib.byteCells ([1])=[.int .u8 1]):=by show _=_;first | rfl | (unfold Lib.byteCells;simp only[xl,List.map_nil];rw[u8n _ (by omega)])
       clear ad
       have aA:(([1])).length<=60:=by simp
       go_wp2_with (at_builtin;refine @qS _ _ _ _ _ _ _ rfl _ _ rfl _ _ _ ([1]) _ _ _ _ rfl al.o ⟨wRt.heap.size,0,none⟩ _ _ rfl rfl (bX.o) aq.o aA (by omega) ?_)
       intro c4 dj ak dl ag
       clear al aq aA bX
       have eX:ak.cell? ⟨w.heap.size,5,none⟩=some (.string (R.str r.to)):=zB (zF ab.o ag.o.gr (by simp))
       go_wp2_with fail
       refine(jY r.to ak (by omega)).mono ?_
       rintro e dn ⟨c3,di,rfl,az,aw⟩
       obtain⟨ba,c6,av,dh,ay⟩:=Rd.some (Rd.of_row az) (kF _)
       simp only[qQ,true_and] at av
       obtain⟨rfl,rfl⟩:=av
       have am:=hid (ag.o.keep aw)
       have ar:=hid ay
       clear az aw ay ag
       have aB:((zJ r.to)).length<=60:=by rw[qw];omega
       go_wp2_with (at_builtin;refine @qS _ _ _ _ _ _ _ rfl _ _ rfl _ _ _ (zJ r.to) _ _ _ _ rfl am.o ⟨ba,0,none⟩ _ _ rfl rfl (rfl) ar.o aB (by omega) ?_)
       intro c5 dk dp dm aV
       clear am ar aB
       go_wp2_with fail
       go_meet
       case rel=>exact⟨_,_,_,rfl,aV.o.to rfl (by omega)⟩
      ·
       subst hbb
       have bN:=au.o false aj.o
       rw[bN] at ad
       clear bN au aj
       rw[if_neg (by simp),List.cons_append,List.nil_append] at ad
       have bo:=hid (ad.o.keep (zL _ (.cells #[.int .u8 0] 5) none))
       have bD:=hid (zu wRt #[.int .u8 0] 5 _ rfl)
       have bU:Y (Lib.byteCells ([0])=[.int .u8 0]):=by show _=_;first | rfl | (unfold Lib.byteCells;simp only[xl,List.map_nil];rw[u8n _ (by omega)])
       clear ad
       have cK:(([0])).length<=60:=by simp
       go_wp2_with (at_builtin;refine @qS _ _ _ _ _ _ _ rfl _ _ rfl _ _ _ ([0]) _ _ _ _ rfl bo.o ⟨wRt.heap.size,0,none⟩ _ _ rfl rfl (bU.o) bD.o cK (by omega) ?_)
       intro dz em e7 ew cX
       clear bo bD cK bU
       go_wp2_with fail
       go_meet
       case rel=>exact⟨_,_,_,rfl,cX.o.to rfl (by omega)⟩
     case rest=>
      obtain⟨aX,kX,lX,rfl,BX⟩:=hcut
      clear ad au aj cV
      generalize wc=wX at*
      have eJ:wX.cell? ⟨w.heap.size,6,none⟩=some (.slice x1 r.sets.length x2):=zB (zF ab.o BX.o.gr (by simp))
      have bl:=hid (BX.o.keep (zL _ (.cells #[.int .u8 ↑r.sets.length] 5) none))
      have bA:=hid (zu wX #[.int .u8 ↑r.sets.length] 5 _ rfl)
      have bS:Y (Lib.byteCells ([UInt8.ofNat r.sets.length])=[.int .u8 ↑r.sets.length]):=by show _=_;first | rfl | (unfold Lib.byteCells;simp only[xl,List.map_nil];rw[u8n _ (by omega)])
      clear BX
      have cH:(([UInt8.ofNat r.sets.length])).length<=60:=by simp
      go_wp2_with (at_builtin;refine @qS _ _ _ _ _ _ _ rfl _ _ rfl _ _ _ ([UInt8.ofNat r.sets.length]) _ _ _ _ rfl bl.o ⟨wX.heap.size,0,none⟩ _ _ rfl rfl (bS.o) bA.o cH (by omega) ?_)
      intro a5 k5 w5 l5 B5
      clear bl bA cH bS
      obtain⟨aR,a4⟩:∃re,Y (re=UInt8.ofNat r.drops.length :: yu zJ r.drops 0):=⟨_,hid rfl⟩
      rw[<-a4.o] at B5
      have cC:Y (Bt wa w5 a5 k5 l5 tot (yu K.st r.sets 0++aR) (1680+180*0)):=B5
      clear B5
      go_wp2_with fail
      go_loopw [3,6] (fun sv iv wr=>∃i:Nat,i<=r.sets.length/\iv = .int .i64 i/\∃a k l,sv = .slice a l.length k/\Y (Bt wa wr a k l tot (yu K.st r.sets i++aR) (1680+180*i))) (fun _ iv _=>r.sets.length - (intOf iv).toNat)
      case atStart=>exact⟨0,zo _,rfl,_,_,_,rfl,cC⟩
      case round=>
       obtain⟨i,ah,rfl,b3,cT,li,rfl,aE⟩:=hrel
       clear cC
       generalize wr=wRs at*
       by_cases aa:i<r.sets.length
       ·have be:(i:Int)<r.sets.length:=by omega
        obtain⟨gm,a9,ae,_,bd⟩:=World.ownsRow.form aN.o (by omega)
        simp only[qQ] at ae
        obtain⟨rfl,_,rfl⟩:=ae
        have aP:=b0.o r.sets[i] (List.getElem_mem aa)
        have aH:Y (Bt wa wRs b3 cT li tot (zJ r.sets[i].1++(zJ r.sets[i].2++(yu K.st r.sets (i+1)++aR))) (1680+180*i)):=aE.o.to (by rw[fv K.st _ i aa];unfold K.st;simp[]) (zw _)
        clear aE
        have eT:wRs.cell? ⟨w.heap.size,6,none⟩=some (.slice (some ⟨gm,0,none⟩) r.sets.length x2):=zB (zF ab.o aH.o.gr (by simp))
        have dT:wRs.cell? ⟨gm,i*2,none⟩=some (.string (R.str r.sets[i].1)):=qx (fun t:List UInt8×List UInt8=>[Value.string (R.str t.1),.string (R.str t.2)]) 2 (fun _=>rfl) aN.o aH.o.gr i 0 aa (by omega) rfl
        go_wp2_with fail
        refine(jY r.sets[i].1 wRs (by omega)).mono ?_
        rintro e e3 ⟨dv,ei,rfl,ax,ci⟩
        obtain⟨de,dM,ca,d5,cw⟩:=Rd.some (Rd.of_row ax) (kF _)
        simp only[qQ,true_and] at ca
        obtain⟨rfl,rfl⟩:=ca
        have bu:=hid (aH.o.keep ci)
        have bJ:=hid cw
        clear ax ci cw aH
        have cQ:((zJ r.sets[i].1)).length<=60:=by rw[qw];omega
        go_wp2_with (at_builtin;refine @qS _ _ _ _ _ _ _ rfl _ _ rfl _ _ _ (zJ r.sets[i].1) _ _ _ _ rfl bu.o ⟨de,0,none⟩ _ _ rfl rfl (rfl) bJ.o cQ (by omega) ?_)
        intro dF et bh eC aM
        clear bu bJ cQ
        have eU:bh.cell? ⟨w.heap.size,6,none⟩=some (.slice (some ⟨gm,0,none⟩) r.sets.length x2):=zB (zF ab.o aM.o.gr (by simp))
        have dU:bh.cell? ⟨gm,i*2+1,none⟩=some (.string (R.str r.sets[i].2)):=qx (fun t:List UInt8×List UInt8=>[Value.string (R.str t.1),.string (R.str t.2)]) 2 (fun _=>rfl) aN.o aM.o.gr i 1 aa (by omega) rfl
        go_wp2_with fail
        refine(jY r.sets[i].2 bh (by omega)).mono ?_
        rintro e e4 ⟨dw,ej,rfl,cq,cj⟩
        obtain⟨df,dN,cb,d6,cx⟩:=Rd.some (Rd.of_row cq) (kF _)
        simp only[qQ,true_and] at cb
        obtain⟨rfl,rfl⟩:=cb
        have bv:=hid (aM.o.keep cj)
        have bK:=hid cx
        clear cq cj cx aM
        have cR:((zJ r.sets[i].2)).length<=60:=by rw[qw];omega
        go_wp2_with (at_builtin;refine @qS _ _ _ _ _ _ _ rfl _ _ rfl _ _ _ (zJ r.sets[i].2) _ _ _ _ rfl bv.o ⟨df,0,none⟩ _ _ rfl rfl (rfl) bK.o cR (by omega) ?_)
        intro dG eu fa eD c1
        clear bv bK cR
        go_wp2_with fail
        go_roundw
        case rel=>exact⟨i+1,by omega,by go_num,_,_,_,rfl,c1.o.to rfl (by omega)⟩
        case measure=>simp[intOf];omega
       ·have hE:i=r.sets.length:=by omega
        subst hE
        have ap:Y (Bt wa wRs b3 cT li tot aR 2220):=aE.o.to (tX _ _ _) (by omega)
        clear aE aa ah aN b0
        rw[a4.o] at ap
        clear a4
        have eK:wRs.cell? ⟨w.heap.size,6,none⟩=some (.slice x1 r.sets.length x2):=zB (zF ab.o ap.o.gr (by simp))
        have eL:wRs.cell? ⟨w.heap.size,7,none⟩=some (.slice d1 r.drops.length d2):=zB (zF ab.o ap.o.gr (by simp))
        have bm:=hid (ap.o.keep (zL _ (.cells #[.int .u8 ↑r.drops.length] 5) none))
        have bB:=hid (zu wRs #[.int .u8 ↑r.drops.length] 5 _ rfl)
        have bT:Y (Lib.byteCells ([UInt8.ofNat r.drops.length])=[.int .u8 ↑r.drops.length]):=by show _=_;first | rfl | (unfold Lib.byteCells;simp only[xl,List.map_nil];rw[u8n _ (by omega)])
        clear ap
        have cI:(([UInt8.ofNat r.drops.length])).length<=60:=by simp
        go_wp2_with (at_builtin;refine @qS _ _ _ _ _ _ _ rfl _ _ rfl _ _ _ ([UInt8.ofNat r.drops.length]) _ _ _ _ rfl bm.o ⟨wRs.heap.size,0,none⟩ _ _ rfl rfl (bT.o) bB.o cI (by omega) ?_)
        intro a6 k6 w6 l6 B6
        clear bm bB cI bT
        have BN:Y (Bt wa w6 a6 k6 l6 tot (yu zJ r.drops 0++[]) 2280):=B6.o.to (zb3 _).symm (zw _)
        clear B6
        obtain⟨aQ,aY⟩:∃re,Y (re=([]:List UInt8)):=⟨_,hid rfl⟩
        rw[<-aY.o] at BN
        have cA:Y (Bt wa w6 a6 k6 l6 tot (yu zJ r.drops 0++aQ) (2280+180*0)):=BN
        clear BN
        go_wp2_with fail
        go_loopw [3,7] (fun sv iv wr=>∃i:Nat,i<=r.drops.length/\iv = .int .i64 i/\∃a k l,sv = .slice a l.length k/\Y (Bt wa wr a k l tot (yu zJ r.drops i++aQ) (2280+180*i))) (fun _ iv _=>r.drops.length - (intOf iv).toNat)
        case atStart=>exact⟨0,zo _,rfl,_,_,_,rfl,cA⟩
        case round=>
         obtain⟨i,ah,rfl,b2,cS,li,rfl,aD⟩:=hrel
         clear cA
         generalize wr=wRd at*
         by_cases aa:i<r.drops.length
         ·have be:(i:Int)<r.drops.length:=by omega
          obtain⟨gm,a9,ae,_,bd⟩:=World.ownsRow.form aW.o (by omega)
          simp only[qQ] at ae
          obtain⟨rfl,_,rfl⟩:=ae
          have aP:=bY.o r.drops[i] (List.getElem_mem aa)
          have aG:Y (Bt wa wRd b2 cS li tot (zJ r.drops[i]++(yu zJ r.drops (i+1)++aQ)) (2280+180*i)):=aD.o.to (by rw[fv zJ _ i aa]) (zw _)
          clear aD
          have eN:wRd.cell? ⟨w.heap.size,7,none⟩=some (.slice (some ⟨gm,0,none⟩) r.drops.length d2):=zB (zF ab.o aG.o.gr (by simp))
          have dP:wRd.cell? ⟨gm,i,none⟩=some (.string (R.str r.drops[i])):=by have h:=qx (fun s=>[Value.string (R.str s)]) 1 (fun _=>rfl) aW.o aG.o.gr i 0 aa (by omega) rfl;rw[Nat.mul_one] at h;exact h
          go_wp2_with fail
          refine(jY r.drops[i] wRd (by omega)).mono ?_
          rintro e eZ ⟨dr,ee,rfl,cm,ce⟩
          obtain⟨da,dI,b6,dZ,cr⟩:=Rd.some (Rd.of_row cm) (kF _)
          simp only[qQ,true_and] at b6
          obtain⟨rfl,rfl⟩:=b6
          have bn:=hid (aG.o.keep ce)
          have bC:=hid cr
          clear cm ce cr aG
          have cJ:((zJ r.drops[i])).length<=60:=by rw[qw];omega
          go_wp2_with (at_builtin;refine @qS _ _ _ _ _ _ _ rfl _ _ rfl _ _ _ (zJ r.drops[i]) _ _ _ _ rfl bn.o ⟨da,0,none⟩ _ _ rfl rfl (rfl) bC.o cJ (by omega) ?_)
          intro dy el e6 ev cW
          clear bn bC cJ
          go_wp2_with fail
          go_roundw
          case rel=>exact⟨i+1,by omega,by go_num,_,_,_,rfl,cW.o.to rfl (by omega)⟩
          case measure=>simp[intOf];omega
         ·have hE:i=r.drops.length:=by omega
          subst hE
          have an:Y (Bt wa wRd b2 cS li tot aQ 2820):=aD.o.to (tX _ _ _) (by omega)
          clear aD aa ah aW bY
          rw[aY.o] at an
          clear aY
          have eM:wRd.cell? ⟨w.heap.size,7,none⟩=some (.slice d1 r.drops.length d2):=zB (zF ab.o an.o.gr (by simp))
          have c2:Y (tot=li):=by show _=_;have h:=an.o.eq;rwa[zb3] at h
          go_wp2_with fail
          go_ret
          rw[c2.o]
          exact⟨_,_,rfl,kH an.o.own bL.o.size,zD bL.o an.o.gr⟩
theorem zqG (r:R.Rl):qt r≠[]:=by unfold qt qe;simp
theorem zcK {r:R.Rl}(h:BR r):(qt r).length<=1200:=by
 have l1:=yR wn 60 r.ms (fun m hm=>by
  have:=h.ms.2 m hm
  unfold wn;split <;> simp only[zh,zoF,zmU,qw] <;> omega)
 have l2:=yR K.tg 60 r.tg (fun m hm=>by
  have:=h.tg.2 m hm
  unfold K.tg;simp only[zh,qw,kU];omega)
 have l3:=yR K.st 60 r.sets (fun m hm=>by
  have:=h.sets.2 m hm
  unfold K.st;simp only[zh,qw];omega)
 have l4:=yR zJ 60 r.drops (fun m hm=>by
  have:=h.drops.2 m hm
  rw[qw];omega)
 have l5:(tF r).length<=60:=by
  have:=h.too
  unfold tF;split <;> simp only[zoF,zmU,qw] <;> omega
 have:=h.path;have:=h.ms.1;have:=h.tg.1;have:=h.sets.1;have:=h.drops.1
 unfold qt
 simp only[zh,qw,kU];omega
structure BH (h:R.Hst):Prop where
 nl:h.name.length<=24
 rl:h.rules.length<=6
 rules:∀r∈h.rules,BR r
theorem zqD {x:R.Hst}(h:BH x):(yr x).length<=8000:=by
 have l1:=yR qt 1200 x.rules (fun r hr=>zcK (h.rules r hr))
 have:=h.nl;have:=h.rl
 unfold yr
 rw[zh,qw];omega
def head4 (n:Nat):List UInt8:=[83,89,49,UInt8.ofNat n]
theorem znO (w:World)(n:Nat)(hn:n<=255):(w.alloc (.cells #[.int .u8 83,.int .u8 89,.int .u8 49,.int .u8 n] 5)).ownsRow w.heap.size 5 1 (.slice (some ⟨w.heap.size,0,none⟩) (head4 n).length 4) (head4 n).length (Lib.byteCells (head4 n)):=by
 have h:=fB w (head4 n) (by unfold head4;simp)
 have e:Lib.byteCells (head4 n)=[.int .u8 83,.int .u8 89,.int .u8 49,.int .u8 n]:=by
  unfold Lib.byteCells head4;simp only[xl,List.map_nil];rw[u8n n hn];rfl
 have e2:(w.alloc (.cells (Lib.byteCells (head4 n)).toArray 5))=w.alloc (.cells #[.int .u8 83,.int .u8 89,.int .u8 49,.int .u8 n] 5):=by rw[e]
 rw[e2] at h
 exact h
theorem znK (hs:List R.Hst):cat (head4 hs.length) yr hs hs.length=vF hs:=by
 rw[zmA];rfl
theorem zcE {w:World}{B:Nat}(v:Value)(hs:List R.Hst)(hH:HostsRow w B v hs)(hn:hs.length<=12)(aU:∀h∈hs,BH h) :
  Calls Tryz.prog 92 #[v] w (Gives w (fK hs)):=by
 obtain⟨i0,hi,am,an,ao⟩:=info_parts js
 obtain⟨bk,aQ,br⟩:=hH
 obtain⟨ha,hc,rfl⟩:=zO aQ
 have aj:Y (w.ownsRow B 119 2 (.slice ha hs.length hc) hs.length bk.flatten):=aQ
 have ar:Y (All2 (HostVal w) bk hs):=br
 have bb:Y (∀h∈hs,BH h):=aU
 have ay:Y (fK hs=vF hs++(xM (yS (vF hs))++[])):=by show _=_;rw[zb3];rfl
 have a7:Y ((w.alloc (.cells #[.int .u8 83,.int .u8 89,.int .u8 49,.int .u8 hs.length] 5)).ownsRow w.heap.size 5 1 (.slice (some ⟨w.heap.size,0,none⟩) (head4 hs.length).length 4) (head4 hs.length).length (Lib.byteCells (head4 hs.length))):=znO w hs.length (by omega)
 have a3:Y (w.grownBy (w.alloc (.cells #[.int .u8 83,.int .u8 89,.int .u8 49,.int .u8 hs.length] 5)) none):=zL _ _ _
 have aX:Y (∀x∈hs,(yr x).length<=8000):=fun x hx=>zqD (aU x hx)
 have au:Y (cat (head4 hs.length) yr hs 0=head4 hs.length):=zdB _ _ _
 have h4:(head4 hs.length).length=4:=rfl
 have aq:Y (cat (head4 hs.length) yr hs hs.length=vF hs):=znK hs
 clear aQ br aU
 generalize fK hs=tot at*
 go_enter Tryz.func92,Tryz.ntmps92
 go_wp2_with fail
 go_loopw [3,4] (fun sv iv wr=>∃i:Nat,i<=hs.length/\iv = .int .i64 i/\(∃a k,sv = .slice a (cat (head4 hs.length) yr hs i).length k/\Y (wr.ownsRow w.heap.size 5 1 (.slice a (cat (head4 hs.length) yr hs i).length k) (cat (head4 hs.length) yr hs i).length (Lib.byteCells (cat (head4 hs.length) yr hs i))))/\Y (w.grownBy wr none)) (fun _ iv _=>hs.length - (intOf iv).toNat)
 case atStart=>exact⟨0,zo _,rfl,⟨_,_,by rw[au.o];rfl,by rw[au.o];exact a7⟩,a3⟩
 case round=>
  obtain⟨i,bV,rfl,⟨aR,kR,rfl,OR⟩,GR⟩:=hrel
  clear a7 a3 au
  generalize wr=wR at*
  have aP:=zm2 (head4 hs.length) yr hs 8000 aX.o i bV
  by_cases al:i<hs.length
  ·have cl:(i:Int)<hs.length:=by omega
   obtain⟨gm,cg,bA,_,_⟩:=World.ownsRow.form aj.o (by omega)
   simp only[qQ] at bA
   obtain⟨rfl,_,rfl⟩:=bA
   obtain⟨vR,bH,bU⟩:=zbD ar.o i al
   obtain⟨bj,aT,bs⟩:=bU
   obtain⟨ra,rc,rfl⟩:=zO aT
   have H0:Y (w.cell? ⟨gm,i*2,none⟩=some (.string (R.str hs[i].name))):=by
    show _=_
    rw[qR aj.o (i*2) (by omega),kn ar.o i al]
   have H1:Y (w.cell? ⟨gm,i*2+1,none⟩=some (.slice ra hs[i].rules.length rc)):=by
    show _=_
    rw[qR aj.o (i*2+1) (by omega),bH]
   have aa:Y (w.ownsRow 0 126 8 (.slice ra hs[i].rules.length rc) hs[i].rules.length bj.flatten):=aT
   have bL:Y (All2 (RuleVal w) bj hs[i].rules):=bs
   have ak:=bb.o hs[i] (List.getElem_mem al)
   obtain⟨nx,aw⟩:∃nx,Y (cat (head4 hs.length) yr hs (i+1)=nx):=⟨_,rfl⟩
   have a9:Y (nx=cat (head4 hs.length) yr hs i++(zJ hs[i].name++(UInt8.ofNat hs[i].rules.length :: ((hs[i].rules.map qt).flatten++[])))):=by
    show _=_
    rw[<-aw.o,zdF _ _ _ _ al,zb3];rfl
   have cp:(cat (head4 hs.length) yr hs i).length<=100000:=by omega
   clear bH aT bs aP aq ay
   generalize cat (head4 hs.length) yr hs i=li at*
   generalize hs[i]=hh at*
   have cn:=ak.nl
   have cx:=ak.rl
   have bc:Y (∀r∈hh.rules,BR r):=ak.rules
   clear ak
   have e0:=GR.o.cell H0.o (by simp)
   go_wp2_with fail
   refine(jY hh.name wR (by omega)).mono ?_
   rintro e b4 ⟨ca,bY,rfl,bt,aH⟩
   obtain⟨bo,cd,bl,ci,bv⟩:=Rd.some (Rd.of_row bt) (kF _)
   simp only[qQ,true_and] at bl
   obtain⟨rfl,rfl⟩:=bl
   have aD:=J (zV OR.o aH (fun k hk c=>by cases c))
   have af:=J (zD GR.o aH)
   have aY:Y (∀j u,(Lib.byteCells (zJ hh.name))[j]?=some u->b4.cell? ((⟨bo,0,none⟩:Addr).add j)=some u):=bv
   clear bt aH bv
   have cy:(zJ hh.name).length<=60:=by rw[qw];omega
   have cG:=af.o.size
   go_wp2_with (at_builtin;refine wpList_append_own _ rfl _ _ 32 rfl w.heap.size 5 i0 _ 1 1 Tryz.underlying32 hi am an ao rfl (by decide) _ _ _ rfl aD.o ⟨bo,0,none⟩ (zJ hh.name).length bY (Lib.byteCells (zJ hh.name)) rfl ?a1 aY.o (vf (zJ hh.name)) ?a4 ?a5 ?a6 ?_)
   case a1=>rw[xh,Nat.mul_one]
   case a4=>unfold maxLen;omega
   case a5=>omega
   case a6=>exact af.o.size
   intro cC ad aL bC _
   obtain⟨bi,bI,rfl⟩:=zO aL
   have az:Y ((li).length+(zJ hh.name).length=(li++zJ hh.name).length):=by show _=_;rw[zh]
   have be:Y (ad.ownsRow w.heap.size 5 1 (.slice bi (li++zJ hh.name).length bI) (li++zJ hh.name).length (Lib.byteCells (li++zJ hh.name))):=by
    show World.ownsRow _ _ _ _ _ _ _
    rw[<-az.o,Lib.byteCells_append]
    exact aL
   have ap:=J (qV af.o bC (fun k hk=>(zx aD.o k hk).1))
   have cr:(li++zJ hh.name).length<=100060:=by rw[zh];omega
   have a8:Y (nx=(li++zJ hh.name)++(UInt8.ofNat hh.rules.length :: ((hh.rules.map qt).flatten++[]))):=by show _=_;rw[a9.o];simp only[x4]
   rw[az.o]
   clear aL bC aD af aY az a9 OR GR
   generalize li++zJ hh.name=lp1 at*
   have e1:=ap.o.cell H1.o (by simp)
   have aE:Y ((ad.alloc (.cells #[.int .u8 ↑hh.rules.length] 5)).ownsRow w.heap.size 5 1 (.slice bi (lp1).length bI) (lp1).length (Lib.byteCells (lp1))):=qK be.o _
   have ag:Y (w.grownBy (ad.alloc (.cells #[.int .u8 ↑hh.rules.length] 5)) none):=zD ap.o (zL _ _ none)
   have aZ:Y (∀j u,([.int .u8 ↑hh.rules.length]:List Value)[j]?=some u->(ad.alloc (.cells #[.int .u8 ↑hh.rules.length] 5)).cell? ((⟨ad.heap.size,0,none⟩:Addr).add j)=some u):=zu ad #[_] _ _ rfl
   have bd:Y (Lib.byteCells ([UInt8.ofNat hh.rules.length])=[.int .u8 ↑hh.rules.length]):=by show _=_;first | rfl | (unfold Lib.byteCells;simp only[xl,List.map_nil];rw[u8n _ (by omega)])
   have cz:([UInt8.ofNat hh.rules.length]).length<=60:=by simp
   have cH:w.heap.size<=(ad.alloc (.cells #[.int .u8 ↑hh.rules.length] 5)).heap.size:=ag.o.size
   go_wp2_with (at_builtin;refine wpList_append_own _ rfl _ _ 32 rfl w.heap.size 5 i0 _ 1 1 Tryz.underlying32 hi am an ao rfl (by decide) _ _ _ rfl aE.o ⟨ad.heap.size,0,none⟩ 1 1 ([.int .u8 ↑hh.rules.length]) rfl ?a1 aZ.o (fun u hu=>by simp at hu;subst hu;rfl) ?a4 ?a5 ?a6 ?_)
   case a1=>rfl
   case a4=>unfold maxLen;omega
   case a5=>omega
   case a6=>exact ag.o.size
   intro cD b7 aM bD _
   obtain⟨bR,b1,rfl⟩:=zO aM
   have aA:Y ((lp1).length+1=(lp1++[UInt8.ofNat hh.rules.length]).length):=by show _=_;rw[zh];rfl
   have bf:Y (b7.ownsRow w.heap.size 5 1 (.slice bR (lp1++[UInt8.ofNat hh.rules.length]).length b1) (lp1++[UInt8.ofNat hh.rules.length]).length (Lib.byteCells (lp1++[UInt8.ofNat hh.rules.length]))):=by
    show World.ownsRow _ _ _ _ _ _ _
    rw[<-aA.o,Lib.byteCells_append,bd.o]
    exact aM
   have aV:=J (qV ag.o bD (fun k hk=>(zx aE.o k hk).1))
   have ct:(lp1++[UInt8.ofNat hh.rules.length]).length<=100120:=by rw[zh];omega
   have bN:Y (nx=(lp1++[UInt8.ofNat hh.rules.length])++((hh.rules.map qt).flatten++[])):=by show _=_;rw[a8.o];simp only[x4,List.cons_append,List.nil_append]
   rw[aA.o]
   clear aM bD aE ag aZ aA a8 be ap bd
   generalize lp1++[UInt8.ofNat hh.rules.length]=lp2 at*
   have av:Y (cat lp2 qt hh.rules 0=lp2):=zdB _ _ _
   have bM:Y (∀x∈hh.rules,(qt x).length<=1200):=fun x hx=>zcK (bc.o x hx)
   go_wp2_with fail
   go_loopw [3,5] (fun sv iv wr=>∃j:Nat,j<=hh.rules.length/\iv = .int .i64 j/\(∃a k,sv = .slice a (cat lp2 qt hh.rules j).length k/\Y (wr.ownsRow w.heap.size 5 1 (.slice a (cat lp2 qt hh.rules j).length k) (cat lp2 qt hh.rules j).length (Lib.byteCells (cat lp2 qt hh.rules j))))/\Y (w.grownBy wr none)) (fun _ iv _=>hh.rules.length - (intOf iv).toNat)
   case atStart=>exact⟨0,zo _,rfl,⟨_,_,by rw[av.o],by rw[av.o];exact bf⟩,aV⟩
   case round=>
    obtain⟨j,bW,rfl,⟨aS,kS,rfl,OS⟩,GS⟩:=hrel
    clear av bf aV
    generalize wr=wS at*
    have bX:=zm2 lp2 qt hh.rules 1200 bM.o j bW
    have f1:wS.cell? ⟨gm,i*2+1,none⟩=some (.slice ra hh.rules.length rc):=GS.o.cell H1.o (by simp)
    by_cases aK:j<hh.rules.length
    ·have cm:(j:Int)<hh.rules.length:=by omega
     obtain⟨gr,ch,bB,_,_⟩:=World.ownsRow.form aa.o (by omega)
     simp only[qQ] at bB
     obtain⟨rfl,_,rfl⟩:=bB
     obtain⟨cs,bG,ab⟩:=uZ bL.o j aK
     have bQ:Y (RuleVal wS cs hh.rules[j]):=bG.keep GS.o (zi _ _)
     have aW:Y (BR hh.rules[j]):=bc.o hh.rules[j] (List.getElem_mem aK)
     obtain⟨ny,ax⟩:∃ny,Y (cat lp2 qt hh.rules (j+1)=ny):=⟨_,rfl⟩
     have ba:Y (ny=cat lp2 qt hh.rules j++(qt hh.rules[j]++[])):=by
      show _=_
      rw[<-ax.o,zdF _ _ _ _ aK,zb3]
     have cq:(cat lp2 qt hh.rules j).length<=110000:=by omega
     have cw:=zcK aW.o
     clear bX
     generalize cat lp2 qt hh.rules j=lj at*
     generalize hh.rules[j]=rl at*
     obtain⟨vM,vT,vS,vD,rfl,hM,hT,hS,hD⟩:=bG
     obtain⟨m1,m2,rfl⟩:=zO hM
     obtain⟨t1,t2,rfl⟩:=zO hT
     obtain⟨x1,x2,rfl⟩:=zO hS
     obtain⟨d1,d2,rfl⟩:=zO hD
     clear hM hT hS hD
     have g0:wS.cell? ⟨gr,j*8,none⟩=some (.int .i64 rl.number):=by
      refine GS.o.cell (a:=⟨gr,j*8,none⟩) ?_ (by simp)
      rw[qR aa.o (j*8) (by omega)];exact ab 0 (by omega)
     have g1:wS.cell? ⟨gr,j*8+1,none⟩=some (.string (R.str rl.path)):=by
      refine GS.o.cell (a:=⟨gr,j*8+1,none⟩) ?_ (by simp)
      rw[qR aa.o (j*8+1) (by omega)];exact ab 1 (by omega)
     have g2:wS.cell? ⟨gr,j*8+2,none⟩=some (.slice m1 rl.ms.length m2):=by
      refine GS.o.cell (a:=⟨gr,j*8+2,none⟩) ?_ (by simp)
      rw[qR aa.o (j*8+2) (by omega)];exact ab 2 (by omega)
     have g3:wS.cell? ⟨gr,j*8+3,none⟩=some (.slice t1 rl.tg.length t2):=by
      refine GS.o.cell (a:=⟨gr,j*8+3,none⟩) ?_ (by simp)
      rw[qR aa.o (j*8+3) (by omega)];exact ab 3 (by omega)
     have g4:wS.cell? ⟨gr,j*8+4,none⟩=some (.bool rl.change):=by
      refine GS.o.cell (a:=⟨gr,j*8+4,none⟩) ?_ (by simp)
      rw[qR aa.o (j*8+4) (by omega)];exact ab 4 (by omega)
     have g5:wS.cell? ⟨gr,j*8+5,none⟩=some (.string (R.str rl.to)):=by
      refine GS.o.cell (a:=⟨gr,j*8+5,none⟩) ?_ (by simp)
      rw[qR aa.o (j*8+5) (by omega)];exact ab 5 (by omega)
     have g6:wS.cell? ⟨gr,j*8+6,none⟩=some (.slice x1 rl.sets.length x2):=by
      refine GS.o.cell (a:=⟨gr,j*8+6,none⟩) ?_ (by simp)
      rw[qR aa.o (j*8+6) (by omega)];exact ab 6 (by omega)
     have g7:wS.cell? ⟨gr,j*8+7,none⟩=some (.slice d1 rl.drops.length d2):=by
      refine GS.o.cell (a:=⟨gr,j*8+7,none⟩) ?_ (by simp)
      rw[qR aa.o (j*8+7) (by omega)];exact ab 7 (by omega)
     clear ab
     go_wp2_with fail
     refine(ze8 _ rl bQ.o aW.o).mono ?_
     rintro e b5 ⟨cb,bZ,rfl,bu,aI⟩
     obtain⟨bp,ce,bm,cj,bw⟩:=Rd.some (Rd.of_row bu) (zqG _)
     simp only[qQ,true_and] at bm
     obtain⟨rfl,rfl⟩:=bm
     have aF:=J (zV OS.o aI (fun k hk c=>by cases c))
     have ah:=J (zD GS.o aI)
     have a0:Y (∀j u,(Lib.byteCells (qt rl))[j]?=some u->b5.cell? ((⟨bp,0,none⟩:Addr).add j)=some u):=bw
     clear bu aI bw
     have cA:(qt rl).length<=1200:=by omega
     have cI:=ah.o.size
     go_wp2_with (at_builtin;refine wpList_append_own _ rfl _ _ 32 rfl w.heap.size 5 i0 _ 1 1 Tryz.underlying32 hi am an ao rfl (by decide) _ _ _ rfl aF.o ⟨bp,0,none⟩ (qt rl).length bZ (Lib.byteCells (qt rl)) rfl ?a1 a0.o (vf (qt rl)) ?a4 ?a5 ?a6 ?_)
     case a1=>rw[xh,Nat.mul_one]
     case a4=>unfold maxLen;omega
     case a5=>omega
     case a6=>exact ah.o.size
     intro cE b8 aN bE _
     obtain⟨bS,b2,rfl⟩:=zO aN
     have aB:Y ((lj).length+(qt rl).length=(lj++qt rl).length):=by show _=_;rw[zh]
     have bg:Y (b8.ownsRow w.heap.size 5 1 (.slice bS (lj++qt rl).length b2) (lj++qt rl).length (Lib.byteCells (lj++qt rl))):=by
      show World.ownsRow _ _ _ _ _ _ _
      rw[<-aB.o,Lib.byteCells_append]
      exact aN
     have bJ:=J (qV ah.o bE (fun k hk=>(zx aF.o k hk).1))
     have cu:(lj++qt rl).length<=111200:=by rw[zh];omega
     have bO:Y (ny=(lj++qt rl)++([])):=by show _=_;rw[ba.o];simp only[x4]
     rw[aB.o]
     clear aN bE aF ah a0 aB ba OS GS
     generalize lj++qt rl=lq1 at*
     have ae:Y (lq1=ny):=by show _=_;rw[bO.o,zb3]
     rw[ae.o] at bg ⊢
     go_wp2_with fail
     go_roundw
     case rel=>exact⟨j+1,by omega,by go_num,⟨_,_,by rw[ax.o],by rw[ax.o];exact bg⟩,bJ⟩
     case measure=>simp[intOf];omega
    ·have hE:j=hh.rules.length:=by omega
     subst hE
     have ae:Y (cat lp2 qt hh.rules hh.rules.length=nx):=by show _=_;rw[zmA,bN.o,zb3]
     rw[ae.o] at OS ⊢
     go_wp2_with fail
     go_roundw
     case rel=>exact⟨i+1,by omega,by go_num,⟨_,_,by rw[aw.o],by rw[aw.o];exact OS⟩,GS⟩
     case measure=>simp[intOf];omega
  ·have hE:i=hs.length:=by omega
   subst hE
   rw[aq.o] at OR aP ⊢
   have co:(vF hs).length<=100000:=by omega
   clear aP aq aX ar aj bb
   generalize vF hs=lA at*
   go_wp2_with fail
   refine(zrH aR kR lA (Rd.of_row OR.o) (by omega)).mono ?_
   rintro e b6 ⟨cc,b0,rfl,bz,aJ⟩
   obtain⟨bq,cf,bn,ck,bx⟩:=Rd.some (Rd.of_row bz) (by unfold xM;simp)
   simp only[qQ,true_and] at bn
   obtain⟨rfl,rfl⟩:=bn
   have aG:=J (zV OR.o aJ (fun k hk c=>by cases c))
   have ai:=J (zD GR.o aJ)
   have a2:Y (∀j u,(Lib.byteCells (xM (yS lA)))[j]?=some u->b6.cell? ((⟨bq,0,none⟩:Addr).add j)=some u):=bx
   clear bz aJ bx
   have cB:(xM (yS lA)).length<=60:=by unfold xM;simp
   have cJ:=ai.o.size
   go_wp2_with (at_builtin;refine wpList_append_own _ rfl _ _ 32 rfl w.heap.size 5 i0 _ 1 1 Tryz.underlying32 hi am an ao rfl (by decide) _ _ _ rfl aG.o ⟨bq,0,none⟩ (xM (yS lA)).length b0 (Lib.byteCells (xM (yS lA))) rfl ?a1 a2.o (vf (xM (yS lA))) ?a4 ?a5 ?a6 ?_)
   case a1=>rw[xh,Nat.mul_one]
   case a4=>unfold maxLen;omega
   case a5=>omega
   case a6=>exact ai.o.size
   intro cF b9 aO bF _
   obtain⟨bT,b3,rfl⟩:=zO aO
   have aC:Y ((lA).length+(xM (yS lA)).length=(lA++xM (yS lA)).length):=by show _=_;rw[zh]
   have bh:Y (b9.ownsRow w.heap.size 5 1 (.slice bT (lA++xM (yS lA)).length b3) (lA++xM (yS lA)).length (Lib.byteCells (lA++xM (yS lA)))):=by
    show World.ownsRow _ _ _ _ _ _ _
    rw[<-aC.o,Lib.byteCells_append]
    exact aO
   have bK:=J (qV ai.o bF (fun k hk=>(zx aG.o k hk).1))
   have cv:(lA++xM (yS lA)).length<=100060:=by rw[zh];omega
   have bP:Y (tot=(lA++xM (yS lA))++([])):=by show _=_;rw[ay.o];simp only[x4]
   rw[aC.o]
   clear aO bF aG ai a2 aC ay OR GR
   generalize lA++xM (yS lA)=lz1 at*
   have ae:Y (lz1=tot):=by show _=_;rw[bP.o,zb3]
   rw[ae.o] at bh ⊢
   go_wp2_with fail
   go_ret
   exact⟨_,_,rfl,bh.o,bK.o⟩
end Go.Proofs.YtfocdefchbnkpaaGreatDoor
