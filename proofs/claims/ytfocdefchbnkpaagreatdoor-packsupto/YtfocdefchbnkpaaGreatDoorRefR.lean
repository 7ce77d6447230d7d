/- The whole text, as the document's own function reads it: the walk. -/
import Derived.Test.YtfocdefchbnkpaaGreatDoorAli
import Derived.Test.YtfocdefchbnkpaaGreatDoorProR
import Derived.Test.YtfocdefchbnkpaaGreatDoorRefM
import Derived.Deep.CutRange
import Derived.Deep.RegionWith
import Derived.Deep.RegionHeld3
import Derived.Deep.AppendLies
import Derived.Maps.AppendAt
import Derived.Laws.AppendOwnNone
import Derived.Laws.Cover1
set_option maxRecDepth 100000
set_option maxHeartbeats 20000000
namespace Go.Proofs.YtfocdefchbnkpaaGreatDoor
open Go.RowKit
theorem zjW (a b c:Value)(w:World):(Instr.field 115 (.agg #[a,b,c]) 0).run Tryz.prog w = .ok a w:=by kernel_rfl
theorem zgB {w:World}{aa:List (List Value)}{hs:List R.Hst}(h:All2 (HostVal w) aa hs)(k:Nat)(hk:k<hs.length):∃vR,aa.flatten[k*2+1]?=some vR/\RulesRow w vR hs[k].rules:=by
 induction h generalizing k with
 | nil=>simp at hk
 | @cons c r cs rs hc _ ih=>
  obtain⟨vR,rfl,hr⟩:=hc
  match k with
  | 0=>exact⟨vR,rfl,hr⟩
  | k+1=>
   obtain⟨v,h1,h2⟩:=ih k (by simpa using hk)
   refine⟨v,?_,h2⟩
   rw[zf7,List.getElem?_append_right (by simp;omega)]
   simp only[zoF,zmU]
   rw[show(k+1)*2+1 - (0+1+1)=k*2+1 by omega]
   exact h1
theorem zoC {w:World}{v:Value}{rs:List R.Rl}(h:RulesRow w v rs):∃a c,v = .slice a rs.length c:=by
 obtain⟨aa,h1,_⟩:=h;exact zO h1
def hcount (w:World)(rb:Nat):Nat:=match w.cell? ⟨rb,5,none⟩ with | some v=>lenOf v | none=>0
theorem zeN {w:World}{rb g aa:Nat}{ts:List R.Tok}{st:R.St}{H:Value}(h:RInv w rb g aa ts st H):hcount w rb=lenOf H:=by
 unfold hcount
 rw[show w.cell? ⟨rb,5,none⟩=some H from zB h.rd]
theorem zgA (ts:List R.Tok)(n:Nat):∀(st:R.St) (aa:List R.Rl),(R.rlLoop ts n st aa).1.length+st.K<=aa.length+(R.rlLoop ts n st aa).2.K:=by
 induction n with
 | zero=>intro st aa;exact zw _
 | succ n ih=>
  intro st aa;unfold R.rlLoop;split
  ·rename_i h
   have h1:=R.ruleS_K ts st aa.length (aa.map R.Rl.number) h
   have h2:=ih (R.ruleS ts st aa.length (aa.map R.Rl.number)).2 (aa++[(R.ruleS ts st aa.length (aa.map R.Rl.number)).1])
   rw[zh] at h2;simp only[zoF,zmU] at h2;omega
  ·exact zw _
theorem zeD (ts:List R.Tok)(st:R.St)(l:List (List UInt8)):(R.hostS ts st l).1.rules.length<=(R.hostS ts st l).2.K:=by
 unfold R.hostS R.hsB;simp only
 have h1:=zgA ts (ts.length+1) (R.needS ts (R.hsA ts st l).2 [123]) []
 have h2:=R.needS_K ts (R.rlLoop ts (ts.length+1) (R.needS ts (R.hsA ts st l).2 [123]) []).2 [125]
 simp only[zmU] at h1
 omega
def qu (a b:List UInt8):Bool:=Op.bytesLess a b
theorem wC (a b:List UInt8):Op.bytesLess (R.str a).toList (R.str b).toList=qu a b:=by rw[Lib.toList_data,Lib.toList_data,R.str_toList,R.str_toList];rfl
def fM (h:R.Hst)(out:List R.Hst):Nat:=(out.takeWhile fun o=>qu o.name h.name).length
def we (out:List R.Hst)(h:R.Hst):List R.Hst:=out.take (fM h out)++[h]++out.drop (fM h out)
def xI (hs:List R.Hst):List R.Hst:=hs.foldl (fun out h=>we out ⟨h.name,zj h.rules⟩) []
theorem zpE:(Tryz.prog.info? 119).map (fun i=>(i.zero,i.size,i.bytes))=some (some (.agg #[.string ⟨#[]⟩,.slice none 0 0]),2,40):=by kernel_rfl
theorem zr8 (r:R.Hst)(aa:List R.Hst):fM r aa<=aa.length:=by
 unfold fM
 exact(List.takeWhile_sublist _).length_le
theorem zr3 (aa:List R.Hst)(r:R.Hst):(we aa r).length=aa.length+1:=by
 have:=zr8 r aa
 unfold we
 simp
 omega
theorem zl6 (l:List R.Hst)(r:R.Hst):xI (l++[r])=we (xI l) ⟨r.name,zj r.rules⟩:=by
 unfold xI;rw[List.foldl_append];rfl
theorem zaH (l:List R.Hst):(xI l).length=l.length:=by
 unfold xI
 have:∀(l aa:List R.Hst),(l.foldl (fun aa h=>we aa ⟨h.name,zj h.rules⟩) aa).length=aa.length+l.length:=by
  intro l
  induction l with
  | nil=>intro aa;rfl
  | cons a l ih=>intro aa;rw[List.foldl_cons,ih,zr3];simp;omega
 rw[this];simp
theorem uj {w:World}{cs:List Value}{r:R.Hst}(h:HostVal w cs r):∀u∈cs,u.oneCell'=true:=by
 obtain⟨vR,rfl,aa,h1,_⟩:=h
 obtain⟨_,_,rfl⟩:=zO h1
 intro u hu
 simp at hu
 rcases hu with rfl | rfl <;> rfl
theorem zaR {w:World}{aa:List (List Value)}{rs:List R.Hst}(h:All2 (HostVal w) aa rs):∀u∈aa.flatten,u.oneCell'=true:=by
 induction h with
 | nil=>intro u hu;simp at hu
 | cons h _ ih=>
  intro u hu
  rw[zf7,List.mem_append] at hu
  rcases hu with hu | hu
  ·exact uj h u hu
  ·exact ih u hu
theorem zhW {w:World}{cs:List Value}{r:R.Hst}(h:HostVal w cs r):cs.length=2:=by
 obtain⟨vR,rfl,_⟩:=h;rfl
theorem fe {w:World}{aa:List (List Value)}{rs:List R.Hst}(h:All2 (HostVal w) aa rs)(k:Nat):(aa.take k).flatten=aa.flatten.take (k*2):=by
 induction h generalizing k with
 | nil=>simp
 | @cons c r cs rs h _ ih=>
  match k with
  | 0=>simp
  | k+1=>
   have e:=zhW h
   rw[List.take_succ_cons,zf7,zf7,ih k,List.take_append,e,tW (l:=c) (by omega),show(k+1)*2 - 2=k*2 by omega]
theorem fg {w:World}{aa:List (List Value)}{rs:List R.Hst}(h:All2 (HostVal w) aa rs)(k:Nat):(aa.drop k).flatten=aa.flatten.drop (k*2):=by
 induction h generalizing k with
 | nil=>simp
 | @cons c r cs rs h _ ih=>
  match k with
  | 0=>simp
  | k+1=>
   have e:=zhW h
   rw[List.drop_succ_cons,zf7,ih k,List.drop_append,e,List.drop_of_length_le (l:=c) (by omega),show(k+1)*2 - 2=k*2 by omega];rfl
def xU (l:List UInt8):Int×Int:=
 if 3000<l.length then (1,0) else if 0<=(R.readS l).2.bad then (2,(R.readS l).2.bad) else ((R.readS l).2.E,if (R.readS l).2.E=0 then 0 else (R.readS l).2.at_)
theorem fo (s:ByteArray)(w:World)(bW:s.size<=maxLen) :
  Calls Tryz.prog 34 #[.string s] w fun e w'=>∃v,e = .returned (.tuple #[v,.int .i64 (xU s.data.toList).1,.int .i64 (xU s.data.toList).2])/\Below w.heap.size w w'/\((xU s.data.toList).1=0->HostsRow w' w.heap.size v (xI (R.readS s.data.toList).1)):=by
 unfold maxLen at bW
 obtain⟨i0,hi,ax,ay,az⟩:=info_parts zpE
 by_cases bp:3000<s.size
 ·have HE:Y (xU s.data.toList=(1,0)):=by show xU _=_;unfold xU;rw[if_pos (by rw[R.size_eq];exact bp)]
  go_enter Tryz.func34,Tryz.ntmps34
  go_wp2
  go_ret3
  exact⟨_,by rw[HE.o];rfl,Below.refl _ _,fun h=>absurd h (by rw[HE.o];decide)⟩
 ·have bu:s.size<=3000:=by omega
  have ao:Y (xU s.data.toList=if 0<=(R.readS s.data.toList).2.bad then (2,(R.readS s.data.toList).2.bad) else ((R.readS s.data.toList).2.E,if (R.readS s.data.toList).2.E=0 then 0 else (R.readS s.data.toList).2.at_)):=by
   show xU _=_;unfold xU;rw[if_neg (by rw[R.size_eq];exact bp)]
  have bD:Y (R.readS s.data.toList=R.hsLoop (R.toks s.data.toList) ((R.toks s.data.toList).length+2) R.st0 []):=rfl
  obtain⟨bg,bs⟩:=R.toks_ok s.data.toList (by rw[R.size_eq];exact bu)
  have bB:Y _:=bg
  have bE:Y (∀w,Calls Tryz.prog 50 #[.string s] w fun e w'=>∃v,e = .returned v/\w'.ownsRow w.heap.size 115 3 v (R.toks s.data.toList).length (R.tokCells (R.toks s.data.toList))/\Below w.heap.size w w'):=fun w=>zkF s w bu
  generalize R.toks s.data.toList=ts at*
  generalize xU s.data.toList=er at*
  generalize R.readS s.data.toList=rd at*
  clear bg bW
  go_enter Tryz.func34,Tryz.ntmps34
  go_wp2_with fail
  refine(bE.o w).mono ?_
  rintro e w1 ⟨v,rfl,br,bc⟩
  obtain⟨g,ag,rfl,cr,bS⟩:=World.ownsRow.form br bs
  have bI:RInv (w1.alloc (.cells #[.slice (some ⟨g,0,none⟩) ts.length ag,.int .i64 0,.int .i64 (-1),.int .i64 0,.int .i64 0,.slice none 0 0] 113)) w1.heap.size g ag ts R.st0 (.slice none 0 0):=by
   refine⟨heap_alloc_new _ _,?_,by omega,bs,bB.o⟩
   rcases br.2 with ⟨h1,_⟩ | ⟨g',cap',cur,h1,_,h2,_,_,_,h3⟩
   ·cases h1
   ·simp only[qQ,Option.some.injEq,Addr.mk.injEq] at h1
    obtain⟨⟨rfl,_⟩,_,_⟩:=h1
    exact⟨cur,by rw[Below.heap_alloc _ _ _ bS];exact h2,h3⟩
  have bv:Y (Below w.heap.size w (w1.alloc (.cells #[.slice (some ⟨g,0,none⟩) ts.length ag,.int .i64 0,.int .i64 (-1),.int .i64 0,.int .i64 0,.slice none 0 0] 113))):=bc.alloc bc.size _
  have bA:Y _:=bI
  have b0:w.heap.size<=w1.heap.size:=bc.size
  clear bI br bc cr bS
  go_wp2_with fail
  generalize cz:w1.heap.size=rb at*
  generalize World.alloc w1 (.cells #[.slice (some ⟨g,0,none⟩) ts.length ag,.int .i64 0,.int .i64 (-1),.int .i64 0,.int .i64 0,.slice none 0 0] 113)=wB at*
  clear cz
  go_loopw [] (fun wr=>∃(n:Nat) (hs:List R.Hst) (st:R.St) (H:Value),Y (R.hsLoop ts n st hs=rd)/\hs.length<=st.K+1/\(st.bad<0->hs.length<=st.K)/\ts.length+1<n+hs.length/\Y (RInv wr rb g ag ts st H)/\Y (HostsRow wr w.heap.size H hs)/\Y (Below w.heap.size w wr)/\Y (∀h∈hs,h.rules.length<=4000)) (fun wr=>ts.length+2 - hcount wr rb)
  case atStart=>exact⟨ts.length+2,[],R.st0,_,bD.o.symm,by simp,fun _=>by simp,by simp,bA,⟨[],xd _ _ _ _,.nil⟩,bv,fun h hh=>by simp at hh⟩
  case round=>
   obtain⟨n,hs,st,H,HL,cx,be,hn,IR,HH,HB,bk⟩:=hrel
   have cj:rb<wr.heap.size:=zI IR.o.rd
   have c2:wr.cell? ⟨rb,2,none⟩=some (.int .i64 st.bad):=zB IR.o.rd
   have cy:=IR.o.lt
   have cA:=IR.o.ok.len
   have co:=zjW
   obtain⟨n,rfl⟩:∃m,n=m+1:=⟨n - 1,by omega⟩
   have aE:=HL.o
   rw[R.hsLoop] at aE
   by_cases ar:st.bad<0/\(R.cur ts st).k≠0
   ·rw[if_pos ar] at aE
    have hb:st.bad<0:=ar.1
    have bo:((R.cur ts st).k != 0)=true:=by rw[bne_iff_ne];exact ar.2
    have cp:=R.hostS_K ts st (hs.map R.Hst.name)
    have cq:=R.hostS_go ts st (hs.map R.Hst.name) hb
    have cL:=be hb
    have cc:Y (hcount wr rb=hs.length):=by
     show hcount wr rb=_
     rw[zeN IR.o];obtain⟨bF,h1,_⟩:=HH.o;exact kB h1
    clear ar be
    go_wp2_with fail
    refine(uL IR.o IR.o.cur).mono ?_
    rintro e w2 ⟨rfl,hg⟩
    have J2:Y (RInv w2 rb g ag ts st H):=IR.o.keep hg
    have a7:Y (HostsRow w2 w.heap.size H hs):=HH.o.keep hg (zi _ _)
    have aP:Y (Below w.heap.size w w2):=HB.o.trans ((qr hg).mono HB.o.size)
    clear hg
    go_wp2_with fail
    refine(zpV J2.o hs a7.o b0 (by omega)).mono ?_
    rintro e w3 ⟨rfl,bL,H3,I3,bH⟩
    have J3:Y _:=I3
    have bz:Y _:=bH
    have aA:Y (Below w.heap.size w w3):=aP.o.trans bL
    have cb:Y _:=aE
    have b9:Y (hcount w3 rb=hs.length+1):=by
     show hcount w3 rb=_
     rw[zeN J3.o];obtain⟨bF,h1,_⟩:=bz.o;rw[kB h1];simp
    have cg:Y (∀h∈hs++[(R.hostS ts st (hs.map R.Hst.name)).1],h.rules.length<=4000):=by
     intro h hh
     rcases List.mem_append.1 hh with hh | hh
     ·exact bk.o h hh
     ·simp at hh;subst hh
      have h1:=zeD ts st (hs.map R.Hst.name)
      have h2:=J3.o.lt
      omega
    clear I3 bH bL aE HL
    go_wp2
    go_roundw
    case rel=>exact⟨n,hs++[(R.hostS ts st (hs.map R.Hst.name)).1],_,H3,cb,by rw[zh];simp;omega,fun h=>by rw[zh];have:=cq h;simp;omega,by rw[zh];simp;omega,J3,bz,aA,cg⟩
    case measure=>rw[b9.o,cc.o];omega
   ·rw[if_neg ar] at aE
    have aF:Y (rd.1=hs):=by rw[<-aE];rfl
    have aG:Y (rd.2=st):=by rw[<-aE];rfl
    clear aE HL
    rw[aG.o] at ao
    have c3:wr.cell? ⟨rb,3,none⟩=some (.int .i64 st.E):=zB IR.o.rd
    have c4:wr.cell? ⟨rb,4,none⟩=some (.int .i64 st.at_):=zB IR.o.rd
    by_cases hb:0<=st.bad
    ·rw[if_pos hb] at ao
     clear ar be
     go_wp2
     go_region
     go_wp2
     go_ret3
     exact⟨_,by rw[ao.o];rfl,HB.o.drew,fun h=>absurd h (by rw[ao.o];exact(by decide:¬(2:Int)=0))⟩
    ·have bo:(R.cur ts st).k=0:=by
      apply Classical.byContradiction;intro h;exact ar ⟨by omega,h⟩
     have cv:((R.cur ts st).k != 0)=false:=by rw[bo];rfl
     rw[if_neg hb] at ao
     have cn:st.bad<0:=by omega
     clear ar be bo
     go_wp2_with fail
     refine(uL IR.o IR.o.cur).mono ?_
     rintro e w2 ⟨rfl,hg⟩
     have J2:Y (RInv w2 rb g ag ts st H):=IR.o.keep hg
     have a7:Y (HostsRow w2 w.heap.size H hs):=HH.o.keep hg (zi _ _)
     have aP:Y (Below w.heap.size w w2):=HB.o.trans ((qr hg).mono HB.o.size)
     have d2:w2.cell? ⟨rb,2,none⟩=some (.int .i64 st.bad):=zB J2.o.rd
     have d3:w2.cell? ⟨rb,3,none⟩=some (.int .i64 st.E):=zB J2.o.rd
     have d4:w2.cell? ⟨rb,4,none⟩=some (.int .i64 st.at_):=zB J2.o.rd
     clear hg c2 c3 c4
     by_cases hE:st.E=0
     ·rw[if_pos hE] at ao
      have bG:(st.E != 0)=false:=by rw[hE];rfl
      have bx:Y (st.E=0):=hE
      clear hE
      obtain⟨bF,bt,bK⟩:=a7.o
      obtain⟨ha,hc,rfl⟩:=zO bt
      have a9:Y _:=bt
      have bh:Y _:=bK
      clear bt bK
      obtain⟨wo,cB⟩:∃x,x=w2:=⟨w2,rfl⟩
      subst cB
      go_wp2_with fail
      go_loopw [6,7] (fun vv iv wz=>∃(i:Nat) (cs:List (List Value)),i<=hs.length/\iv = .int .i64 i/\Y (wz.ownsRow w.heap.size 119 2 vv i cs.flatten)/\Y (All2 (HostVal wz) cs (xI (hs.take i)))/\Y (RInv wz rb g ag ts st (.slice ha hs.length hc))/\Y (wo.grownBy wz none)) (fun _ iv _=>hs.length - (intOf iv).toNat)
      case atStart=>exact⟨0,[],zo _,rfl,xd _ _ _ _,.nil,J2,ze _ _⟩
      case round=>
       obtain⟨i,cs,cu,rfl,HO,HA,IZ,HZ⟩:=hrel
       obtain⟨oa,oc,rfl⟩:=zO HO.o
       have b5:wr.cell? ⟨rb,5,none⟩=some (.slice ha hs.length hc):=zB IZ.o.rd
       by_cases bf:i<hs.length
       ·obtain⟨gh,cD,bR,_,ct⟩:=World.ownsRow.form a9.o (by omega)
        simp only[qQ] at bR
        obtain⟨rfl,_,rfl⟩:=bR
        obtain⟨vR,bX,bJ⟩:=zgB bh.o i bf
        have bT:=bk.o hs[i] (List.getElem_mem bf)
        have bC:Y (RulesRow wr vR hs[i].rules):=bJ.keep HZ.o (zi _ _)
        obtain⟨cC,bU,cm⟩:=bJ
        obtain⟨ra,rc,rfl⟩:=zO bU
        clear bU cm
        have e0:wr.cell? ⟨gh,i*2,none⟩=some (.string (R.str hs[i].name)):=by
         refine HZ.o.cell (a:=⟨gh,i*2,none⟩) ?_ (by simp)
         rw[qR a9.o (i*2) (by omega),kn bh.o i bf]
        have e1:wr.cell? ⟨gh,i*2+1,none⟩=some (.slice ra hs[i].rules.length rc):=by
         refine HZ.o.cell (a:=⟨gh,i*2+1,none⟩) ?_ (by simp)
         rw[qR a9.o (i*2+1) (by omega),bX]
        clear bX
        have cI:(i:Int)<hs.length:=by omega
        have cH:gh<wr.heap.size:=by have h:=HZ.o.size;omega
        have cM:rb<wr.heap.size:=zI IZ.o.rd
        have HS:Y (xI (hs.take (i+1))=we (xI (hs.take i)) ⟨hs[i].name,zj hs[i].rules⟩):=by
         show xI _=_
         rw[uo bf,zl6]
        have bV:(xI (hs.take i)).length=i:=by rw[zaH,List.length_take];omega
        have cG:cs.length=i:=by rw[HA.o.len,bV]
        generalize xI (hs.take i)=out at*
        generalize hs[i]=hh at*
        have ch:Y (wr.grownBy (World.drew (World.alloc wr (.cells #[.string ⟨#[]⟩,.slice none 0 0] 119))) none):=zD (zL _ _ _) (zg _)
        have cd:Y ((World.drew (World.alloc wr (.cells #[.string ⟨#[]⟩,.slice none 0 0] 119))).heap[wr.heap.size]?=some (.cells #[.string ⟨#[]⟩,.slice none 0 0] 119)):=heap_alloc_new wr _
        go_wp2
        go_cut [8] from 62 to 79 (fun s8 wx=>∃(b8:Nat) (sa:Option Addr) (sc:Nat),s8 = .pointer (some ⟨b8,0,none⟩)/\Y (wx.heap[b8]?=some (.cells #[.string (R.str hh.name),.slice sa (zj hh.rules).length sc] 119))/\Y (RulesRow wx (.slice sa (zj hh.rules).length sc) (zj hh.rules))/\Y (wr.grownBy wx none)/\wr.heap.size<=b8)
        case first=>
         have bw:Y (∀W,wr.grownBy W none->Calls Tryz.prog 53 #[.slice ra hh.rules.length rc] W fun e w'=>∃sa sc,e = .returned (.slice sa (zj hh.rules).length sc)/\wr.grownBy w' none/\RulesRow w' (.slice sa (zj hh.rules).length sc) (zj hh.rules)/\W.grownBy w' none):=fun W hW=>
          (zl0 (.slice ra hh.rules.length rc) hh.rules (bC.o.keep hW (zi _ _)) bT).mono (by rintro e wS ⟨vS,rfl,bM,aL⟩;obtain⟨sa,sc,rfl⟩:=zoC aL;exact⟨sa,sc,rfl,zD hW (qJ bM),aL,qJ bM⟩)
         try clear hm0
         try clear IZ
         try clear HO
         try clear HA
         try clear a9
         try clear bh
         try clear bk
         try clear a7
         try clear aP
         try clear HZ
         try clear J2
         try clear ao
         try clear bD
         try clear bB
         try clear bE
         try clear aF
         try clear aG
         try clear bA
         try clear bv
         try clear bx
         try clear bG
         try clear d2
         try clear d3
         try clear d4
         try clear cv
         try clear cn
         try clear hb
         try clear co
         try clear cA
         try clear cy
         try clear ch
         try clear bC
         try clear bT
         try clear cu
         try clear ct
         try clear hghc
         try clear HH
         try clear IR
         try clear HB
         try clear cj
         try clear cp
         try clear hn
         try clear cx
         try clear b0
         try clear bp
         try clear bu
         try clear bs
         have p0:rb≠wr.heap.size:=by omega
         have p1:gh≠wr.heap.size:=by omega
         go_region_held3 (fun W=>W.cell? ⟨rb,5,none⟩=some (.slice (some ⟨gh,0,none⟩) hs.length hc)/\W.cell? ⟨gh,i*2,none⟩=some (.string (R.str hh.name))/\W.cell? ⟨gh,i*2+1,none⟩=some (.slice ra hh.rules.length rc)) (go_keep) (first
          | (go_at_call 53;show Calls _ _ _ (World.drew (World.alloc wr (.cells #[.string ⟨#[]⟩,.slice none 0 0] 119))) _;refine(bw.o _ (zD (zL _ _ _) (zg _))).mono ?_;rintro e wS ⟨sa,sc,rfl,aq,aL,bd⟩;have bm:Y _:=aL;have bb:Y _:=aq;have p5:wS.cell? ⟨rb,5,none⟩=some (.slice (some ⟨gh,0,none⟩) hs.length hc):=aq.cell b5 (by simp);have p6:wS.cell? ⟨gh,i*2,none⟩=some (.string (R.str hh.name)):=aq.cell e0 (by simp);have p7:wS.cell? ⟨gh,i*2+1,none⟩=some (.slice ra hh.rules.length rc):=aq.cell e1 (by simp);have am:Y (wS.heap[wr.heap.size]?=some (.cells #[.string ⟨#[]⟩,.slice none 0 0] 119)):=zF cd.o bd (by simp);have cN:wS.cell? ⟨wr.heap.size,0,none⟩=some (.string ⟨#[]⟩):=zB am.o;have cO:wS.cell? ⟨wr.heap.size,1,none⟩=some (.slice none 0 0):=zB am.o;have cP:wS.frozen? ⟨wr.heap.size,0,none⟩=false:=zH am.o;have cQ:wS.frozen? ⟨wr.heap.size,1,none⟩=false:=zH am.o;have n5:wr.heap.size≠rb:=Ne.symm p0;have n6:wr.heap.size≠gh:=Ne.symm p1;clear aq aL bd)
          | (go_at_call 53;show Calls _ _ _ (World.drew wr) _;refine(bw.o _ (zg wr)).mono ?_;rintro e wS ⟨sa,sc,rfl,aq,aL,bd⟩;have bm:Y _:=aL;have bb:Y _:=aq;have p5:wS.cell? ⟨rb,5,none⟩=some (.slice (some ⟨gh,0,none⟩) hs.length hc):=aq.cell b5 (by simp);have p6:wS.cell? ⟨gh,i*2,none⟩=some (.string (R.str hh.name)):=aq.cell e0 (by simp);have p7:wS.cell? ⟨gh,i*2+1,none⟩=some (.slice ra hh.rules.length rc):=aq.cell e1 (by simp);have n5:wS.heap.size≠rb:=World.new_ne wS _ p5;have n6:wS.heap.size≠gh:=World.new_ne wS _ p6;clear aq aL bd))
         ·go_wp2_with fail
          go_meet
          case rel=>exact⟨wS.heap.size,sa,sc,rfl,heap_alloc_new _ _,RulesRow.keep bm.o (zL _ _ _) (zi _ _),zD bb.o (zL _ _ _),bb.o.size⟩
         ·have bQ:=zD (zG wS wr.heap.size 0 (.string (R.str hh.name))) (zG _ wr.heap.size 1 (.slice sa (zj hh.rules).length sc))
          go_wp2_with fail
          go_meet
          case rel=>exact⟨wr.heap.size,sa,sc,rfl,zR (zR am.o _) _,RulesRow.keep bm.o bQ (xY am.o (by decide)),zm bb.o bQ (zw _),zw _⟩
        case rest=>
         obtain⟨b8,sa,sc,rfl,am,bj,aW,cE⟩:=hcut
         have cf:Y (wc.ownsRow w.heap.size 119 2 (.slice oa i oc) i cs.flatten):=zV HO.o aW.o (fun k hk c=>by cases c)
         have a0:Y (All2 (HostVal wc) cs out):=HA.o.map fun a b hab=>hab.keep aW.o (zi _ _)
         have ba:Y (wo.grownBy wc none):=zD HZ.o aW.o
         have bi:Y (RInv wc rb g ag ts st (.slice (some ⟨gh,0,none⟩) hs.length hc)):=IZ.o.keep aW.o
         have zc:w.heap.size<=wc.heap.size:=qf aP.o.size ba.o.size
         have ci:wc.cell? ⟨b8,0,none⟩=some (.string (R.str hh.name)):=zB am.o
         have cF:b8<wc.heap.size:=zI am.o
         clear HO HA HZ IZ aW b5 e0 e1
         go_wp2
         go_loopw [9] (fun kv wz=>∃k:Nat,k<=i/\kv = .int .i64 k/\Y (∀j (hj:j<k) (ho:j<out.length),qu out[j].name hh.name=true)/\Y (wc.grownBy wz none)) (fun kv _=>i - (intOf kv).toNat)
         case atStart=>exact⟨0,zo _,rfl,fun j hj=>absurd hj (by omega),ze _ _⟩
         case round=>
          obtain⟨k,cw,rfl,HK,aH⟩:=hrel
          have aX:Y (wr.ownsRow w.heap.size 119 2 (.slice oa i oc) i cs.flatten):=zV cf.o aH.o (fun k hk c=>by cases c)
          have zz:wc.heap.size<=wr.heap.size:=aH.o.size
          have d1:wr.cell? ⟨b8,0,none⟩=some (.string (R.str hh.name)):=aH.o.cell ci (by simp)
          have b7:Y (All2 (HostVal wr) cs out):=a0.o.map fun a b hab=>hab.keep aH.o (zi _ _)
          by_cases hk:k<i
          ·obtain⟨go,ck,ar,_,_⟩:=World.ownsRow.form aX.o (by omega)
           simp only[qQ] at ar
           obtain⟨rfl,_,rfl⟩:=ar
           have cJ:(k:Int)<i:=by omega
           have d2:wr.cell? ⟨go,k*2,none⟩=some (.string (R.str out[k].name)):=by
            have bP:=qR aX.o (k*2) (by omega)
            rw[kn b7.o k (by omega)] at bP
            exact bP
           by_cases aV:qu out[k].name hh.name=true
           ·have ca:Y (∀j (hj:j<k+1) (ho:j<out.length),qu out[j].name hh.name=true):=by
             intro j hj ho
             by_cases e:j=k
             ·subst e;exact aV
             ·exact HK.o j (by omega) ho
            have bq:=wC out[k].name hh.name
            rw[aV] at bq
            clear aV
            generalize bg:out[k].name=ok at*
            clear bg
            go_wp2_with fail
            go_quiet (fail)
            go_wp2
            exact⟨⟨k+1,by omega,by go_num,ca,zD aH.o (yG _ _)⟩,by simp[intOf];omega⟩
           ·have a8:Y (fM ⟨hh.name,zj hh.rules⟩ out=k):=kV _ _ _ (by omega) (fun j hj=>HK.o j hj (by omega)) (fun _=>by simpa using aV)
            have bq:=wC out[k].name hh.name
            rw[show qu out[k].name hh.name=false by simpa using aV] at bq
            clear aV
            go_wp2_with fail
            go_quiet (fail)
            have ab:=zD aH.o (yG wr nq)
            have aa:Y _:=zV aX.o (yG wr nq) (fun k hk c=>by cases c)
            have ae:Y (All2 (HostVal (wr.drewN nq)) cs out):=a0.o.map fun a b hab=>hab.keep ab (zi _ _)
            have aR:Y (RInv (wr.drewN nq) rb g ag ts st (.slice (some ⟨gh,0,none⟩) hs.length hc)):=RInv.keep bi.o ab
            have aU:Y (wo.grownBy (wr.drewN nq) none):=zD ba.o ab
            have ai:Y ((wr.drewN nq).heap[b8]?=some (.cells #[.string (R.str hh.name),.slice sa (zj hh.rules).length sc] 119)):=zF am.o ab (by simp)
            have aT:Y (RulesRow (wr.drewN nq) (.slice sa (zj hh.rules).length sc) (zj hh.rules)):=RulesRow.keep bj.o ab (zi _ _)
            have zq:w.heap.size<=(wr.drewN nq).heap.size:=qf zc ab.size
            clear ab
            generalize wr.drewN nq=wq at*
            have H0:Y (wq.cell? ⟨b8,0,none⟩=some (.string (R.str hh.name))):=zB ai.o
            have H1:Y (wq.cell? ⟨b8,1,none⟩=some (.slice sa (zj hh.rules).length sc)):=zB ai.o
            have ap:Y (HostVal wq [.string (R.str hh.name),.slice sa (zj hh.rules).length sc] ⟨hh.name,zj hh.rules⟩):=⟨_,rfl,aT.o⟩
            have bn:b8<wq.heap.size:=zI ai.o
            have HW:Y (∀j u,(cs.flatten)[j]?=some u->wq.cell? ⟨go,j,none⟩=some u):=by
             intro j u hu
             have af:=(List.getElem?_eq_some_iff.1 hu).1
             rw[aa.o.1] at af
             rw[qR aa.o j af];exact hu
            have aJ:=wF aa.o
            unfold maxLen at aJ
            obtain⟨bN,bO⟩:=aJ
            have aB:Y (cs.flatten.length=i*2):=aa.o.1
            have aS:Y (∀u∈cs.flatten,u.oneCell'=true):=zaR ae.o
            go_wp2_with (at_builtin;refine wpList_append_own _ rfl _ _ 67 rfl (wq.heap.size) 119 i0 _ 2 40 Tryz.underlying67 hi ax ay az rfl (by decide) _ _ _ rfl (xd _ _ _ _) ⟨go,0,none⟩ k oc (cs.flatten.take (k*2)) rfl ?a1 ?a2 ?a3 ?a4 ?a5 ?a6 ?_)
            case a1=>rw[List.length_take,aB.o];omega
            case a2=>
             intro j u hu
             rw[uR]
             rw[List.getElem?_take] at hu
             split at hu
             ·exact HW.o j u hu
             ·cases hu
            case a3=>exact fun u hu=>aS.o u (List.mem_of_mem_take hu)
            case a4=>unfold maxLen;omega
            case a5=>omega
            case a6=>exact zw _
            intro v1 w1 av ak _
            obtain⟨aY,aZ,rfl⟩:=zO av
            have g1:wq.grownBy w1 none:=ak
            have aj:Y _:=av
            have aF:Y _:=zV aa.o ak (fun k hk c=>by cases c)
            have z1:wq.heap.size<=w1.heap.size:=ak.size
            have d0:=g1.cell H0.o (by simp)
            have d1:=g1.cell H1.o (by simp)
            have aC:Y _:=g1
            clear av ak g1
            go_wp2_with (at_builtin;refine wpList_append_lies _ rfl _ _ 67 rfl (wq.heap.size) 119 i0 _ 2 40 Tryz.underlying67 hi ax ay az rfl (by decide) _ _ _ rfl (qK aj.o _) ⟨w1.heap.size,0,none⟩ 1 1 [.string (R.str hh.name),.slice sa (zj hh.rules).length sc] rfl rfl ?c1 ?c2 (by decide) ?c3 ?c4 ?c5 (w1.heap.size+1) (by simp) ?_)
            case c1=>exact zu _ #[_,_] _ _ (by simp)
            case c2=>exact uj ap.o
            case c3=>unfold maxLen;omega
            case c4=>omega
            case c5=>simp;omega
            intro g2 aI w2 an ad _ _
            have al:Y _:=an
            have aG:Y _:=zV (qK aF.o _) ad (fun k hk c=>by have h1:=(zx aa.o k hk).2;have h2:=(zx aj.o k c).1;omega)
            have z2:w1.heap.size+1<=w2.heap.size:=by have h:=ad.size;simpa using h
            have aD:Y _:=ad
            clear an ad
            have bl:Y (∀j u,(cs.flatten)[j]?=some u->w2.cell? ⟨go,j,none⟩=some u):=by
             intro j u hu
             have af:=(List.getElem?_eq_some_iff.1 hu).1
             rw[aa.o.1] at af
             rw[qR aG.o j af];exact hu
            go_wp2_with (at_builtin;refine wpList_append_own _ rfl _ _ 67 rfl (wq.heap.size) 119 i0 _ 2 40 Tryz.underlying67 hi ax ay az rfl (by decide) _ _ _ rfl al.o ⟨go,k*2,none⟩ (i - k) (oc - k) (cs.flatten.drop (k*2)) rfl ?b1 ?b2 ?b3 ?b4 ?b5 ?b6 ?_)
            case b1=>rw[List.length_drop,aB.o];omega
            case b2=>
             intro j u hu
             rw[List.getElem?_drop] at hu
             have:=bl.o (k*2+j) u hu
             unfold Addr.add
             split
             ·rename_i h0;subst h0;exact this
             ·exact this
            case b3=>exact fun u hu=>aS.o u (List.mem_of_mem_drop hu)
            case b4=>unfold maxLen;omega
            case b5=>omega
            case b6=>omega
            intro v3 w3 aK au _
            have gA:=zL w1 (.cells #[.string (R.str hh.name),.slice sa (zj hh.rules).length sc] 119) none
            have aM:Safe (w1.alloc (.cells #[.string (R.str hh.name),.slice sa (zj hh.rules).length sc] 119)) (Value.slice aY k aZ).ownBlock rtags:=xz (qK aj.o _) (by decide)
            have aN:Safe w2 (Value.slice (some ⟨g2,0,none⟩) (k+1) aI).ownBlock rtags:=xz al.o (by decide)
            have kp:∀a b,HostVal wq a b->HostVal w3 a b:=fun a b hab=>(((hab.keep aC.o (zi _ _)).keep gA (zi _ _)).keep aD.o aM).keep au aN
            have aO:Y (All2 (HostVal w3) (cs.take k++([[.string (R.str hh.name),.slice sa (zj hh.rules).length sc]]:List (List Value))++cs.drop k) (xI (hs.take (i+1)))):=by
             rw[HS.o];unfold we;rw[a8.o]
             exact((ae.o.take k).append (.cons ap.o .nil) |>.append (ae.o.drop k)).map kp
            have aw:Y (w3.ownsRow w.heap.size 119 2 v3 (i+1) (cs.take k++([[.string (R.str hh.name),.slice sa (zj hh.rules).length sc]]:List (List Value))++cs.drop k).flatten):=by
             rw[yj,yj,fe ae.o,fg ae.o,show i+1=k+1+(i - k) by omega,show([[.string (R.str hh.name),.slice sa (zj hh.rules).length sc]]:List (List Value)).flatten=[.string (R.str hh.name),.slice sa (zj hh.rules).length sc] from rfl,x4]
             exact qF aK zq
            have ah:wq.grownBy w3 none:=by
             refine qJ ?_
             have b1:=qr aC.o
             have b2:=(b1.alloc (by omega) (.cells #[.string (R.str hh.name),.slice sa (zj hh.rules).length sc] 119)).grown aD.o (by simp;omega) (fun k hk=>by have:=(zx aj.o k hk).1;omega)
             exact b2.grown au (by omega) (fun k hk=>by have:=(zx al.o k hk).1;omega)
            have aA:Y (wo.grownBy w3 none):=zD aU.o ah
            have aQ:Y (RInv w3 rb g ag ts st (.slice (some ⟨gh,0,none⟩) hs.length hc)):=RInv.keep aR.o ah
            clear aK au kp aM aN gA ah
            obtain⟨bY,bZ,rfl⟩:=zO aw.o
            go_wp2
            go_roundw
            case rel=>exact⟨i+1,_,by omega,by go_num,aw,aO,aQ,aA⟩
            case measure=>simp[intOf];omega
          ·have a8:Y (fM ⟨hh.name,zj hh.rules⟩ out=k):=kV _ _ _ (by omega) (fun j hj=>HK.o j hj (by omega)) (fun h=>by omega)
           obtain rfl:k=i:=by omega
           clear hk cw
           have cl:=aX.o.2
           rcases cl with ⟨hnil,hi0⟩ | ⟨go,ck,cur,hsl,_,_,_⟩
           ·simp only[qQ] at hnil
            obtain⟨rfl,rfl,rfl⟩:=hnil
            clear hi0
            go_wp2_with fail
            go_quiet (fail)
            have ab:=zD aH.o (yG wr nq)
            have ae:Y (All2 (HostVal (wr.drewN nq)) cs out):=a0.o.map fun a b hab=>hab.keep ab (zi _ _)
            have aR:Y (RInv (wr.drewN nq) rb g ag ts st (.slice (some ⟨gh,0,none⟩) hs.length hc)):=RInv.keep bi.o ab
            have aU:Y (wo.grownBy (wr.drewN nq) none):=zD ba.o ab
            have ai:Y ((wr.drewN nq).heap[b8]?=some (.cells #[.string (R.str hh.name),.slice sa (zj hh.rules).length sc] 119)):=zF am.o ab (by simp)
            have aT:Y (RulesRow (wr.drewN nq) (.slice sa (zj hh.rules).length sc) (zj hh.rules)):=RulesRow.keep bj.o ab (zi _ _)
            have zq:w.heap.size<=(wr.drewN nq).heap.size:=qf zc ab.size
            clear ab
            generalize wr.drewN nq=wq at*
            have H0:Y (wq.cell? ⟨b8,0,none⟩=some (.string (R.str hh.name))):=zB ai.o
            have H1:Y (wq.cell? ⟨b8,1,none⟩=some (.slice sa (zj hh.rules).length sc)):=zB ai.o
            have ap:Y (HostVal wq [.string (R.str hh.name),.slice sa (zj hh.rules).length sc] ⟨hh.name,zj hh.rules⟩):=⟨_,rfl,aT.o⟩
            have bn:b8<wq.heap.size:=zI ai.o
            have d0:=H0.o
            have d1:=H1.o
            go_wp2_with (first
             | (at_builtin;refine wpList_append_own_none rfl _ _ 67 rfl (wq.heap.size) 119 i0 2 Tryz.underlying67 hi _ _ _ rfl (xd _ _ _ _) rfl ?_)
             | (at_builtin;refine wpList_append_lies _ rfl _ _ 67 rfl (wq.heap.size) 119 i0 _ 2 40 Tryz.underlying67 hi ax ay az rfl (by decide) _ _ _ rfl (xd _ _ _ _) ⟨wq.heap.size,0,none⟩ 1 1 [.string (R.str hh.name),.slice sa (zj hh.rules).length sc] rfl rfl ?c1 ?c2 (by decide) ?c3 ?c4 ?c5 (wq.heap.size+1) (by simp) ?_))
            case c1=>exact zu _ #[_,_] _ _ (by simp)
            case c2=>exact uj ap.o
            case c3=>unfold maxLen;omega
            case c4=>omega
            case c5=>simp
            intro g2 aI w2 an ad _ _
            have al:Y (w2.ownsRow wq.heap.size 119 2 (.slice (some ⟨g2,0,none⟩) 1 aI) 1 [.string (R.str hh.name),.slice sa (zj hh.rules).length sc]):=an
            have gA:=zL wq (.cells #[.string (R.str hh.name),.slice sa (zj hh.rules).length sc] 119) none
            have aO:Y (All2 (HostVal w2) ([[.string (R.str hh.name),.slice sa (zj hh.rules).length sc]]:List (List Value)) (xI (hs.take (0+1)))):=by
             rw[HS.o];unfold we
             rw[List.length_eq_zero_iff.1 bV]
             exact .cons ((ap.o.keep gA (zi _ _)).keep ad (zi _ _)) .nil
            have aw:Y (w2.ownsRow w.heap.size 119 2 (.slice (some ⟨g2,0,none⟩) 1 aI) (0+1) ([[.string (R.str hh.name),.slice sa (zj hh.rules).length sc]]:List (List Value)).flatten):=qF an zq
            have ah:wq.grownBy w2 none:=qJ ((((Below.refl wq.heap.size wq).alloc (zw _) _).grown ad (by simp) (fun k hk=>by cases hk)))
            have aA:Y (wo.grownBy w2 none):=zD aU.o ah
            have aQ:Y (RInv w2 rb g ag ts st (.slice (some ⟨gh,0,none⟩) hs.length hc)):=RInv.keep aR.o ah
            clear an ad gA ah
            go_wp2_with (at_builtin;refine wpList_append_own_none rfl _ _ 67 rfl (wq.heap.size) 119 i0 2 Tryz.underlying67 hi _ _ _ rfl al.o rfl ?_)
            go_roundw
            case rel=>exact⟨0+1,_,by omega,by go_num,aw,aO,aQ,aA⟩
            case measure=>simp[intOf];omega
           ·simp only[qQ] at hsl
            obtain⟨rfl,_,rfl⟩:=hsl
            go_wp2_with fail
            go_quiet (fail)
            have ab:=zD aH.o (yG wr nq)
            have aa:Y _:=zV aX.o (yG wr nq) (fun k hk c=>by cases c)
            have ae:Y (All2 (HostVal (wr.drewN nq)) cs out):=a0.o.map fun a b hab=>hab.keep ab (zi _ _)
            have aR:Y (RInv (wr.drewN nq) rb g ag ts st (.slice (some ⟨gh,0,none⟩) hs.length hc)):=RInv.keep bi.o ab
            have aU:Y (wo.grownBy (wr.drewN nq) none):=zD ba.o ab
            have ai:Y ((wr.drewN nq).heap[b8]?=some (.cells #[.string (R.str hh.name),.slice sa (zj hh.rules).length sc] 119)):=zF am.o ab (by simp)
            have aT:Y (RulesRow (wr.drewN nq) (.slice sa (zj hh.rules).length sc) (zj hh.rules)):=RulesRow.keep bj.o ab (zi _ _)
            have zq:w.heap.size<=(wr.drewN nq).heap.size:=qf zc ab.size
            clear ab
            generalize wr.drewN nq=wq at*
            by_cases cK:k<oc
            ·have H0:Y (wq.cell? ⟨b8,0,none⟩=some (.string (R.str hh.name))):=zB ai.o
             have H1:Y (wq.cell? ⟨b8,1,none⟩=some (.slice sa (zj hh.rules).length sc)):=zB ai.o
             have ap:Y (HostVal wq [.string (R.str hh.name),.slice sa (zj hh.rules).length sc] ⟨hh.name,zj hh.rules⟩):=⟨_,rfl,aT.o⟩
             have bn:b8<wq.heap.size:=zI ai.o
             have HW:Y (∀j u,(cs.flatten)[j]?=some u->wq.cell? ⟨go,j,none⟩=some u):=by
              intro j u hu
              have af:=(List.getElem?_eq_some_iff.1 hu).1
              rw[aa.o.1] at af
              rw[qR aa.o j af];exact hu
             have aJ:=wF aa.o
             unfold maxLen at aJ
             obtain⟨bN,bO⟩:=aJ
             have aB:Y (cs.flatten.length=k*2):=aa.o.1
             have aS:Y (∀u∈cs.flatten,u.oneCell'=true):=zaR ae.o
             go_wp2_with (at_builtin;refine wpList_append_own _ rfl _ _ 67 rfl (wq.heap.size) 119 i0 _ 2 40 Tryz.underlying67 hi ax ay az rfl (by decide) _ _ _ rfl (xd _ _ _ _) ⟨go,0,none⟩ k oc (cs.flatten.take (k*2)) rfl ?a1 ?a2 ?a3 ?a4 ?a5 ?a6 ?_)
             case a1=>rw[List.length_take,aB.o];omega
             case a2=>
              intro j u hu
              rw[uR]
              rw[List.getElem?_take] at hu
              split at hu
              ·exact HW.o j u hu
              ·cases hu
             case a3=>exact fun u hu=>aS.o u (List.mem_of_mem_take hu)
             case a4=>unfold maxLen;omega
             case a5=>omega
             case a6=>exact zw _
             intro v1 w1 av ak _
             obtain⟨aY,aZ,rfl⟩:=zO av
             have g1:wq.grownBy w1 none:=ak
             have aj:Y _:=av
             have aF:Y _:=zV aa.o ak (fun k hk c=>by cases c)
             have z1:wq.heap.size<=w1.heap.size:=ak.size
             have d0:=g1.cell H0.o (by simp)
             have d1:=g1.cell H1.o (by simp)
             have aC:Y _:=g1
             clear av ak g1
             go_wp2_with (at_builtin;refine wpList_append_lies _ rfl _ _ 67 rfl (wq.heap.size) 119 i0 _ 2 40 Tryz.underlying67 hi ax ay az rfl (by decide) _ _ _ rfl (qK aj.o _) ⟨w1.heap.size,0,none⟩ 1 1 [.string (R.str hh.name),.slice sa (zj hh.rules).length sc] rfl rfl ?c1 ?c2 (by decide) ?c3 ?c4 ?c5 (w1.heap.size+1) (by simp) ?_)
             case c1=>exact zu _ #[_,_] _ _ (by simp)
             case c2=>exact uj ap.o
             case c3=>unfold maxLen;omega
             case c4=>omega
             case c5=>simp;omega
             intro g2 aI w2 an ad _ _
             have al:Y _:=an
             have aG:Y _:=zV (qK aF.o _) ad (fun k hk c=>by have h1:=(zx aa.o k hk).2;have h2:=(zx aj.o k c).1;omega)
             have z2:w1.heap.size+1<=w2.heap.size:=by have h:=ad.size;simpa using h
             have aD:Y _:=ad
             clear an ad
             have bl:Y (∀j u,(cs.flatten)[j]?=some u->w2.cell? ⟨go,j,none⟩=some u):=by
              intro j u hu
              have af:=(List.getElem?_eq_some_iff.1 hu).1
              rw[aa.o.1] at af
              rw[qR aG.o j af];exact hu
             go_wp2_with (at_builtin;refine wpList_append_own _ rfl _ _ 67 rfl (wq.heap.size) 119 i0 _ 2 40 Tryz.underlying67 hi ax ay az rfl (by decide) _ _ _ rfl al.o ⟨go,k*2,none⟩ 0 (oc - k) [] rfl ?b1 ?b2 ?b3 ?b4 ?b5 ?b6 ?_)
             case b1=>rfl
             case b2=>intro j u hu;simp at hu
             case b3=>exact fun u hu=>by simp at hu
             case b4=>unfold maxLen;omega
             case b5=>omega
             case b6=>omega
             intro v3 w3 aK au _
             have gA:=zL w1 (.cells #[.string (R.str hh.name),.slice sa (zj hh.rules).length sc] 119) none
             have aM:Safe (w1.alloc (.cells #[.string (R.str hh.name),.slice sa (zj hh.rules).length sc] 119)) (Value.slice aY k aZ).ownBlock rtags:=xz (qK aj.o _) (by decide)
             have aN:Safe w2 (Value.slice (some ⟨g2,0,none⟩) (k+1) aI).ownBlock rtags:=xz al.o (by decide)
             have kp:∀a b,HostVal wq a b->HostVal w3 a b:=fun a b hab=>(((hab.keep aC.o (zi _ _)).keep gA (zi _ _)).keep aD.o aM).keep au aN
             have aO:Y (All2 (HostVal w3) (cs.take k++([[.string (R.str hh.name),.slice sa (zj hh.rules).length sc]]:List (List Value))++cs.drop k) (xI (hs.take (k+1)))):=by
              rw[HS.o];unfold we;rw[a8.o]
              exact((ae.o.take k).append (.cons ap.o .nil) |>.append (ae.o.drop k)).map kp
             have aw:Y (w3.ownsRow w.heap.size 119 2 v3 (k+1) (cs.take k++([[.string (R.str hh.name),.slice sa (zj hh.rules).length sc]]:List (List Value))++cs.drop k).flatten):=by
              rw[yj,yj,fe ae.o,fg ae.o,show k+1=k+1+0 by omega,show([[.string (R.str hh.name),.slice sa (zj hh.rules).length sc]]:List (List Value)).flatten=[.string (R.str hh.name),.slice sa (zj hh.rules).length sc] from rfl,List.drop_of_length_le (l:=cs.flatten) (by rw[aB.o];omega),x4]
              exact qF aK zq
             have ah:wq.grownBy w3 none:=by
              refine qJ ?_
              have b1:=qr aC.o
              have b2:=(b1.alloc (by omega) (.cells #[.string (R.str hh.name),.slice sa (zj hh.rules).length sc] 119)).grown aD.o (by simp;omega) (fun k hk=>by have:=(zx aj.o k hk).1;omega)
              exact b2.grown au (by omega) (fun k hk=>by have:=(zx al.o k hk).1;omega)
             have aA:Y (wo.grownBy w3 none):=zD aU.o ah
             have aQ:Y (RInv w3 rb g ag ts st (.slice (some ⟨gh,0,none⟩) hs.length hc)):=RInv.keep aR.o ah
             clear aK au kp aM aN gA ah
             obtain⟨bY,bZ,rfl⟩:=zO aw.o
             go_wp2
             go_roundw
             case rel=>exact⟨k+1,_,by omega,by go_num,aw,aO,aQ,aA⟩
             case measure=>simp[intOf];omega
            ·obtain rfl:oc=k:=by have h:=(wF aa.o).1;omega
             have H0:Y (wq.cell? ⟨b8,0,none⟩=some (.string (R.str hh.name))):=zB ai.o
             have H1:Y (wq.cell? ⟨b8,1,none⟩=some (.slice sa (zj hh.rules).length sc)):=zB ai.o
             have ap:Y (HostVal wq [.string (R.str hh.name),.slice sa (zj hh.rules).length sc] ⟨hh.name,zj hh.rules⟩):=⟨_,rfl,aT.o⟩
             have bn:b8<wq.heap.size:=zI ai.o
             have HW:Y (∀j u,(cs.flatten)[j]?=some u->wq.cell? ⟨go,j,none⟩=some u):=by
              intro j u hu
              have af:=(List.getElem?_eq_some_iff.1 hu).1
              rw[aa.o.1] at af
              rw[qR aa.o j af];exact hu
             have aJ:=wF aa.o
             unfold maxLen at aJ
             obtain⟨bN,bO⟩:=aJ
             have aB:Y (cs.flatten.length=oc*2):=aa.o.1
             have aS:Y (∀u∈cs.flatten,u.oneCell'=true):=zaR ae.o
             go_wp2_with (at_builtin;refine wpList_append_own _ rfl _ _ 67 rfl (wq.heap.size) 119 i0 _ 2 40 Tryz.underlying67 hi ax ay az rfl (by decide) _ _ _ rfl (xd _ _ _ _) ⟨go,0,none⟩ oc oc (cs.flatten.take (oc*2)) rfl ?a1 ?a2 ?a3 ?a4 ?a5 ?a6 ?_)
             case a1=>rw[List.length_take,aB.o];omega
             case a2=>
              intro j u hu
              rw[uR]
              rw[List.getElem?_take] at hu
              split at hu
              ·exact HW.o j u hu
              ·cases hu
             case a3=>exact fun u hu=>aS.o u (List.mem_of_mem_take hu)
             case a4=>unfold maxLen;omega
             case a5=>omega
             case a6=>exact zw _
             intro v1 w1 av ak _
             obtain⟨aY,aZ,rfl⟩:=zO av
             have g1:wq.grownBy w1 none:=ak
             have aj:Y _:=av
             have aF:Y _:=zV aa.o ak (fun oc hk c=>by cases c)
             have z1:wq.heap.size<=w1.heap.size:=ak.size
             have d0:=g1.cell H0.o (by simp)
             have d1:=g1.cell H1.o (by simp)
             have aC:Y _:=g1
             clear av ak g1
             go_wp2_with (at_builtin;refine wpList_append_lies _ rfl _ _ 67 rfl (wq.heap.size) 119 i0 _ 2 40 Tryz.underlying67 hi ax ay az rfl (by decide) _ _ _ rfl (qK aj.o _) ⟨w1.heap.size,0,none⟩ 1 1 [.string (R.str hh.name),.slice sa (zj hh.rules).length sc] rfl rfl ?c1 ?c2 (by decide) ?c3 ?c4 ?c5 (w1.heap.size+1) (by simp) ?_)
             case c1=>exact zu _ #[_,_] _ _ (by simp)
             case c2=>exact uj ap.o
             case c3=>unfold maxLen;omega
             case c4=>omega
             case c5=>simp;omega
             intro g2 aI w2 an ad _ _
             have al:Y _:=an
             have aG:Y _:=zV (qK aF.o _) ad (fun oc hk c=>by have h1:=(zx aa.o oc hk).2;have h2:=(zx aj.o oc c).1;omega)
             have z2:w1.heap.size+1<=w2.heap.size:=by have h:=ad.size;simpa using h
             have aD:Y _:=ad
             clear an ad
             have bl:Y (∀j u,(cs.flatten)[j]?=some u->w2.cell? ⟨go,j,none⟩=some u):=by
              intro j u hu
              have af:=(List.getElem?_eq_some_iff.1 hu).1
              rw[aa.o.1] at af
              rw[qR aG.o j af];exact hu
             go_wp2_with (at_builtin;refine wpList_append_own _ rfl _ _ 67 rfl (wq.heap.size) 119 i0 _ 2 40 Tryz.underlying67 hi ax ay az rfl (by decide) _ _ _ rfl al.o ⟨go,0,none⟩ 0 0 [] rfl ?b1 ?b2 ?b3 ?b4 ?b5 ?b6 ?_)
             case b1=>rfl
             case b2=>intro j u hu;simp at hu
             case b3=>exact fun u hu=>by simp at hu
             case b4=>unfold maxLen;omega
             case b5=>omega
             case b6=>omega
             intro v3 w3 aK au _
             have gA:=zL w1 (.cells #[.string (R.str hh.name),.slice sa (zj hh.rules).length sc] 119) none
             have aM:Safe (w1.alloc (.cells #[.string (R.str hh.name),.slice sa (zj hh.rules).length sc] 119)) (Value.slice aY oc aZ).ownBlock rtags:=xz (qK aj.o _) (by decide)
             have aN:Safe w2 (Value.slice (some ⟨g2,0,none⟩) (oc+1) aI).ownBlock rtags:=xz al.o (by decide)
             have kp:∀a b,HostVal wq a b->HostVal w3 a b:=fun a b hab=>(((hab.keep aC.o (zi _ _)).keep gA (zi _ _)).keep aD.o aM).keep au aN
             have aO:Y (All2 (HostVal w3) (cs.take oc++([[.string (R.str hh.name),.slice sa (zj hh.rules).length sc]]:List (List Value))++cs.drop oc) (xI (hs.take (oc+1)))):=by
              rw[HS.o];unfold we;rw[a8.o]
              exact((ae.o.take oc).append (.cons ap.o .nil) |>.append (ae.o.drop oc)).map kp
             have aw:Y (w3.ownsRow w.heap.size 119 2 v3 (oc+1) (cs.take oc++([[.string (R.str hh.name),.slice sa (zj hh.rules).length sc]]:List (List Value))++cs.drop oc).flatten):=by
              rw[yj,yj,fe ae.o,fg ae.o,show oc+1=oc+1+0 by omega,show([[.string (R.str hh.name),.slice sa (zj hh.rules).length sc]]:List (List Value)).flatten=[.string (R.str hh.name),.slice sa (zj hh.rules).length sc] from rfl,List.drop_of_length_le (l:=cs.flatten) (by rw[aB.o];omega),x4]
              exact qF aK zq
             have ah:wq.grownBy w3 none:=by
              refine qJ ?_
              have b1:=qr aC.o
              have b2:=(b1.alloc (by omega) (.cells #[.string (R.str hh.name),.slice sa (zj hh.rules).length sc] 119)).grown aD.o (by simp;omega) (fun oc hk=>by have:=(zx aj.o oc hk).1;omega)
              exact b2.grown au (by omega) (fun oc hk=>by have:=(zx al.o oc hk).1;omega)
             have aA:Y (wo.grownBy w3 none):=zD aU.o ah
             have aQ:Y (RInv w3 rb g ag ts st (.slice (some ⟨gh,0,none⟩) hs.length hc)):=RInv.keep aR.o ah
             clear aK au kp aM aN gA ah
             obtain⟨bY,bZ,rfl⟩:=zO aw.o
             go_wp2
             go_roundw
             case rel=>exact⟨oc+1,_,by omega,by go_num,aw,aO,aQ,aA⟩
             case measure=>simp[intOf];omega
       ·go_wp2
        go_ret3
        rw[show i=hs.length by omega,tW (zw _)] at HA
        refine⟨_,by rw[ao.o,bx.o];rfl,aP.o.trans ((qr HZ.o).mono aP.o.size),fun _=>?_⟩
        rw[aF.o]
        refine⟨cs,?_,HA.o⟩
        rw[zaH,show hs.length=i by omega]
        exact HO.o
     ·rw[if_neg hE] at ao
      have bG:(st.E != 0)=true:=by rw[bne_iff_ne];exact hE
      have ce:Y (st.E≠0):=hE
      clear hE
      go_wp2
      go_region
      all_goals
       go_wp2
       go_ret3
       exact⟨_,by rw[ao.o];rfl,aP.o.drew,fun h=>absurd h (by rw[ao.o];exact ce.o)⟩
def vg (a b:List UInt8):Int:=if qu a b then -1 else if a=b then 0 else 1
def za8 (a b:Int):Int:=if a<b then -1 else if a=b then 0 else 1
theorem uz (x:ByteArray)(w:World):Calls Tryz.prog 211 #[.string x] w fun e w'=>e = .returned (.bool false)/\w'=w:=by
 go_enter Tryz.func211,Tryz.ntmps211
 go_wp2
 go_ret
 exact⟨by simp,rfl⟩
theorem zjO (x:Int)(w:World):Calls Tryz.prog 213 #[.int .i64 x] w fun e w'=>e = .returned (.bool false)/\w'=w:=by
 go_enter Tryz.func213,Tryz.ntmps213
 go_wp2
 go_ret
 exact⟨by simp,rfl⟩
theorem zo4 (x y:List UInt8)(w:World):Calls Tryz.prog 152 #[.string (R.str x),.string (R.str y)] w fun e w'=>e = .returned (.int .i64 (vg x y))/\w'=w:=by
 have h1:=wC x y
 have h2:((R.str x).toList == (R.str y).toList)=decide (x=y):=by
  rw[Lib.toList_data,Lib.toList_data,R.str_toList,R.str_toList];by_cases h:x=y <;> simp[h]
 by_cases hl:qu x y=true
 ·rw[hl] at h1
  have e:vg x y = -1:=by unfold vg;rw[if_pos hl]
  generalize vg x y=r at*
  subst e
  go_enter Tryz.func152,Tryz.ntmps152
  go_wp2_with (go_at_call 211;refine(uz _ _).mono ?_;rintro e w' ⟨rfl,rfl⟩)
  go_ret
  exact⟨rfl,rfl⟩
 ·rw[show qu x y=false by simpa using hl] at h1
  by_cases he:x=y
  ·have e:vg x y=0:=by unfold vg;rw[if_neg hl,if_pos he]
   rw[show decide (x=y)=true by simpa using he] at h2
   generalize vg x y=r at*
   subst e
   clear he
   go_enter Tryz.func152,Tryz.ntmps152
   go_wp2_with (go_at_call 211;refine(uz _ _).mono ?_;rintro e w' ⟨rfl,rfl⟩)
   go_ret
   exact⟨rfl,rfl⟩
  ·have e:vg x y=1:=by unfold vg;rw[if_neg hl,if_neg he]
   rw[show decide (x=y)=false by simpa using he] at h2
   generalize vg x y=r at*
   subst e
   clear he
   go_enter Tryz.func152,Tryz.ntmps152
   go_wp2_with (go_at_call 211;refine(uz _ _).mono ?_;rintro e w' ⟨rfl,rfl⟩)
   go_ret
   exact⟨rfl,rfl⟩
theorem zmW (x y:Int)(w:World):Calls Tryz.prog 155 #[.int .i64 x,.int .i64 y] w fun e w'=>e = .returned (.int .i64 (za8 x y))/\w'=w:=by
 go_enter Tryz.func155,Tryz.ntmps155
 go_wp2_with (go_at_call 213;refine(zjO _ _).mono ?_;rintro e w' ⟨rfl,rfl⟩)
 all_goals
  go_ret
  refine⟨?_,rfl⟩
  unfold za8
  first | (rw[if_pos (by omega)];rfl) | (rw[if_neg (by omega),if_pos (by omega)];rfl) | (rw[if_neg (by omega),if_neg (by omega)];rfl)
abbrev Sl3:=Option Addr×Nat×Nat
instance:Inhabited P.Hst:=⟨⟨[],[]⟩⟩
instance:Inhabited P.Rl:=⟨⟨0,[],[],[],[],[],[]⟩⟩
def encH (x:P.Hst×Sl3):List Value:=[.string (R.str x.1.name),.slice x.2.1 x.2.2.1 x.2.2.2]
def encR (x:P.Rl×Sl3×Sl3×Sl3×Sl3):List Value:=[.int .i64 x.1.number,.string (R.str x.1.path),.slice x.2.1.1 x.2.1.2.1 x.2.1.2.2,.slice x.2.2.1.1 x.2.2.1.2.1 x.2.2.1.2.2,.string (R.str x.1.rep),.slice x.2.2.2.1.1 x.2.2.2.1.2.1 x.2.2.2.1.2.2,.slice x.2.2.2.2.1 x.2.2.2.2.2.1 x.2.2.2.2.2.2]
theorem zrG (n1 n2:List UInt8)(a1 a2:Option Addr)(l1 l2 c1 c2:Nat)(W:World):Calls Tryz.prog 151 #[.agg #[.string (R.str n1),.slice a1 l1 c1],.agg #[.string (R.str n2),.slice a2 l2 c2]] W fun e w'=>e = .returned (.int .i64 (vg n1 n2))/\∃q os',w'=Go.Sort.grow (W.drewN q) os':=by
 have aa:=fun W'=>zo4 n1 n2 W'
 generalize vg n1 n2=r at aa ⊢
 go_enter Tryz.func151,Tryz.ntmps151
 go_wp2_with (go_at_call 152;refine(aa _).mono ?_;rintro e w' ⟨rfl,rfl⟩)
 go_ret
 exact⟨rfl,0,_,by rw[Go.Sort.alloc_eq_grow,Go.Sort.alloc_eq_grow,Go.Sort.grow_grow];rfl⟩
theorem zrQ (x y:P.Rl×Sl3×Sl3×Sl3×Sl3)(W:World):Calls Tryz.prog 154 #[.agg (encR x).toArray,.agg (encR y).toArray] W fun e w'=>e = .returned (.int .i64 (za8 x.1.number y.1.number))/\∃q os',w'=Go.Sort.grow (W.drewN q) os':=by
 have aa:=fun W'=>zmW x.1.number y.1.number W'
 generalize za8 x.1.number y.1.number=r at aa ⊢
 show Calls Tryz.prog 154 #[.agg #[_,_,_,_,_,_,_],.agg #[_,_,_,_,_,_,_]] W _
 go_enter Tryz.func154,Tryz.ntmps154
 go_wp2_with (go_at_call 155;refine(aa _).mono ?_;rintro e w' ⟨rfl,rfl⟩)
 go_ret
 exact⟨rfl,0,_,by rw[Go.Sort.alloc_eq_grow,Go.Sort.alloc_eq_grow,Go.Sort.grow_grow];rfl⟩
theorem PV.isAggH:∀w,(isAgg (Tryz.sortHost_ren.t 24)).run Tryz.prog w = .ok true w:=fun w=>by kernel_rfl
theorem PV.sizeH:∀w,(Go.sizeOf (Tryz.sortHost_ren.t 24)).run Tryz.prog w = .ok 2 w:=fun w=>by kernel_rfl
theorem PV.isAggR:∀w,(isAgg (Tryz.sortRule_ren.t 24)).run Tryz.prog w = .ok true w:=fun w=>by kernel_rfl
theorem PV.sizeR:∀w,(Go.sizeOf (Tryz.sortRule_ren.t 24)).run Tryz.prog w = .ok 7 w:=fun w=>by kernel_rfl
theorem PV.enterH:∀args w,(callFunc 151 args).run Tryz.prog w = .ok (.enter 151 args) w:=enters_of Tryz.func151 (by kernel_rfl) rfl
theorem PV.enterR:∀args w,(callFunc 154 args).run Tryz.prog w = .ok (.enter 154 args) w:=enters_of Tryz.func154 (by kernel_rfl) rfl
def cfH (x y:P.Hst×Sl3):Int:=vg x.1.name y.1.name
def cfR (x y:P.Rl×Sl3×Sl3×Sl3×Sl3):Int:=za8 x.1.number y.1.number
theorem zpS:Go.Proofs.ltOf cfH=fun x y=>Go.Sort.ltStr x.1.name y.1.name:=by
 funext x y;unfold Go.Proofs.ltOf cfH vg Go.Sort.ltStr qu
 rw[bytesLess_eq]
 by_cases h:x.1.name<y.1.name
 ·simp[h]
 ·simp only[h,decide_false,zb2,if_false];split <;> simp
theorem zpW:Go.Proofs.ltOf cfR=fun x y=>Go.Sort.ltInt x.1.number y.1.number:=by
 funext x y;unfold Go.Proofs.ltOf cfR za8 Go.Sort.ltInt
 by_cases h:x.1.number<y.1.number
 ·simp[h]
 ·simp only[h,if_false];split <;> simp
theorem ztP:Go.Sort.SWO (Go.Proofs.ltOf cfH):=by
 rw[zpS];exact⟨fun x=>Go.Sort.swo_ltStr.irrefl _,fun x y z=>Go.Sort.swo_ltStr.trans _ _ _,fun x y z=>Go.Sort.swo_ltStr.ntrans _ _ _⟩
theorem ztM:Go.Sort.SWO (Go.Proofs.ltOf cfR):=by
 rw[zpW];exact⟨fun x=>Go.Sort.swo_ltInt.irrefl _,fun x y z=>Go.Sort.swo_ltInt.trans _ _ _,fun x y z=>Go.Sort.swo_ltInt.ntrans _ _ _⟩
theorem znY {w:World}{B g aa:Nat}(d:List (P.Hst×Sl3))(h:w.ownsRow B 146 2 (.slice (some ⟨g,0,none⟩) d.length aa) d.length (d.map encH).flatten)(hn:d.length<=12) :
  Calls Tryz.prog 150 #[.slice (some ⟨g,0,none⟩) d.length aa,.func (.func 151) #[] #[]] w fun e w'=>e = .returned (.tuple #[])/\∃d':List (P.Hst×Sl3),d'.Perm d/\d'.Pairwise (fun x y=>Go.Sort.ltStr y.1.name x.1.name=false)/\w.grownBy w' (some g)/\w'.ownsRow B 146 2 (.slice (some ⟨g,0,none⟩) d.length aa) d.length (d'.map encH).flatten:=by
 have ad:g<w.heap.size:=(zx h g rfl).2
 have hH:=tY encH 2 (fun _=>rfl) d h
 have ab:=AnyQ.slices_SortFunc_small_sorted Tryz.sortHost 2 PV.isAggH PV.sizeH encH (fun _=>rfl) (fun x v hv=>by simp[encH] at hv;rcases hv with rfl | rfl <;> rfl) cfH 151 #[] ztP g 0 aa d.toArray w PV.enterH (fun _ _ _ _ x y=>zrG x.1.name y.1.name _ _ _ _ _ _ _) hH ad (by simpa using hn) Tryz.hlen
 change Calls Tryz.prog 150 _ _ _ at ab
 rw[List.size_toArray] at ab
 refine ab.mono ?_
 rintro e w' ⟨rfl,d',n,os,hp,hs,rfl⟩
 refine⟨rfl,d'.toList,?_,?_,zb4 _ _ _ _ _ _ _,?_⟩
 ·have:=hp.2.2
  have e1:=hp.1
  simp at this e1
  rw[<-e1,tW (by simp)] at this
  exact this
 ·rw[List.pairwise_iff_getElem]
  intro i j hi hj ae
  have e1:=hp.1
  simp at e1 hi hj
  have:=hs i j (zo _) ae (by omega)
  rw[zpS,getElem!_pos d' i hi,getElem!_pos d' j hj] at this
  simpa using this
 ·have e1:=hp.1
  simp at e1
  have:=zcY encH 2 (fun _=>rfl) d d'.toList (by simpa using e1) n os h
  simpa using this
theorem znR {w:World}{B g aa:Nat}(d:List (P.Rl×Sl3×Sl3×Sl3×Sl3))(h:w.ownsRow B 213 7 (.slice (some ⟨g,0,none⟩) d.length aa) d.length (d.map encR).flatten)(hn:d.length<=12) :
  Calls Tryz.prog 153 #[.slice (some ⟨g,0,none⟩) d.length aa,.func (.func 154) #[] #[]] w fun e w'=>e = .returned (.tuple #[])/\∃d':List (P.Rl×Sl3×Sl3×Sl3×Sl3),d'.Perm d/\d'.Pairwise (fun x y=>Go.Sort.ltInt y.1.number x.1.number=false)/\w.grownBy w' (some g)/\w'.ownsRow B 213 7 (.slice (some ⟨g,0,none⟩) d.length aa) d.length (d'.map encR).flatten:=by
 have ad:g<w.heap.size:=(zx h g rfl).2
 have hH:=tY encR 7 (fun _=>rfl) d h
 have ab:=AnyQ.slices_SortFunc_small_sorted Tryz.sortRule 7 PV.isAggR PV.sizeR encR (fun _=>rfl) (fun x v hv=>by simp[encR] at hv;rcases hv with rfl | rfl | rfl | rfl | rfl | rfl | rfl <;> rfl) cfR 154 #[] ztM g 0 aa d.toArray w PV.enterR (fun _ _ _ _ x y=>zrQ x y _) hH ad (by simpa using hn) Tryz.hlen
 change Calls Tryz.prog 153 _ _ _ at ab
 rw[List.size_toArray] at ab
 refine ab.mono ?_
 rintro e w' ⟨rfl,d',n,os,hp,hs,rfl⟩
 refine⟨rfl,d'.toList,?_,?_,zb4 _ _ _ _ _ _ _,?_⟩
 ·have:=hp.2.2
  have e1:=hp.1
  simp at this e1
  rw[<-e1,tW (by simp)] at this
  exact this
 ·rw[List.pairwise_iff_getElem]
  intro i j hi hj ae
  have e1:=hp.1
  simp at e1 hi hj
  have:=hs i j (zo _) ae (by omega)
  rw[zpW,getElem!_pos d' i hi,getElem!_pos d' j hj] at this
  simpa using this
 ·have e1:=hp.1
  simp at e1
  have:=zcY encR 7 (fun _=>rfl) d d'.toList (by simpa using e1) n os h
  simpa using this
end Go.Proofs.YtfocdefchbnkpaaGreatDoor
