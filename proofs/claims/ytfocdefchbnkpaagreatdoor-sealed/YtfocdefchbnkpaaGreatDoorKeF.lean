/- What is no packed policy leaves the yard as it was. -/
import Derived.Test.YtfocdefchbnkpaaGreatDoorAli
import Derived.Test.YtfocdefchbnkpaaGreatDoorKeA
import Derived.Test.YtfocdefchbnkpaaGreatDoorRqE
set_option maxRecDepth 100000
set_option maxHeartbeats 20000000
namespace Go.Proofs.YtfocdefchbnkpaaGreatDoor
open Go.RowKit
def Kp.cl (l:List UInt8)(k:Nat)(x:UInt8):List UInt8:=l.set k (l.getD k 0 ^^^ x)
theorem Kp.cl_len (l:List UInt8)(k:Nat)(x:UInt8):(Kp.cl l k x).length=l.length:=by unfold Kp.cl;rw[List.length_set]
theorem q54q {hs:List P.Hst}{k:Nat}{x:UInt8}(hk:k<(qE hs).length)(hx:x≠0):∀aa,VHs aa->qE aa≠Kp.cl (qE hs) k x:=by
 intro aa _ h
 have e1:qE hs=(qE hs).take k++(qE hs)[k] :: (qE hs).drop (k+1):=by rw[<-List.drop_eq_getElem_cons hk,List.take_append_drop]
 have e2:qE aa=(qE hs).take k++((qE hs)[k] ^^^ x) :: (qE hs).drop (k+1):=by
  rw[h];unfold Kp.cl
  rw[List.getD_eq_getElem?_getD,qN hk,Option.getD_some,List.set_eq_take_append_cons_drop,if_pos hk]
 have e3:=q35q e1 e2
 apply hx
 have e4:(qE hs)[k] ^^^ ((qE hs)[k])=(qE hs)[k] ^^^ ((qE hs)[k] ^^^ x):=by rw[<-e3]
 rw[<-UInt8.xor_assoc,UInt8.xor_self,UInt8.zero_xor] at e4
 exact e4.symm
theorem q64q {hs:List P.Hst}(hv:VHs hs){j:Nat}(hj:j<(qE hs).length):∀aa,VHs aa->qE aa≠(qE hs).take j:=by
 intro aa ab h
 have e:=q5q (r:=(qE hs).drop j) hv ab (by rw[h,List.take_append_drop])
 have:=congrArg List.length e
 rw[List.length_drop] at this
 simp at this
 omega
theorem q66q {hs:List P.Hst}(hv:VHs hs):∀aa,VHs aa->qE aa≠qE hs++[0]:=by
 intro aa ab h
 have e:=q5q ab hv h
 cases e
theorem q34q {w:World}{g B:Nat}{l:List UInt8}(h:w.heap[g]?=some (.cells (Lib.byteCells l).toArray 5 (0,0)))(hB:B<=g)(hl:l.length<=maxLen):w.ownsRow B 5 1 (.slice (some ⟨g,0,none⟩) l.length l.length) l.length (Lib.byteCells l):=
 ⟨by rw[j9];omega,Or.inr ⟨g,l.length,_,rfl,hB,h,zZ _,hl,by simp[j9],by rw[jS (by simp[j9])]⟩⟩
theorem Kb.sub {w:World}{yb:Nat}{ps:List (Option Nat)}{a:Option Addr}{k j:Nat}{l:List UInt8}(h:Kb w yb ps (.slice a l.length k) l)(hj:j<l.length):Kb w yb ps (.slice a j k) (l.take j):=by
 refine⟨?_,fun kk hk=>h.ap kk (by cases a with | none=>cases hk | some x=>exact hk),fun kk hk=>h.lt kk (by cases a with | none=>cases hk | some x=>exact hk)⟩
 have hl:(l.take j).length=j:=by rw[List.length_take];omega
 rcases h.rd with ⟨_,_,_,e⟩ | ⟨g,o,c,e,h1,h2,h3⟩
 ·rw[e] at hj;cases hj
 ·simp only[qc,true_and] at e
  obtain⟨rfl,rfl⟩:=e
  exact Or.inr ⟨g,o,k,by rw[hl],by omega,h2,fun i u hu=>h3 i u (by rw[List.getElem?_take] at hu;split at hu;exact hu;cases hu)⟩
def Sl.t:List UInt8:=[104,111,115,116,34,42,34,123,114,117,108,101,32,49,123,112,97,116,104,34,47,34,59,116,111,34,107,101,101,112,34,49,59,125,125]
def Sl.rq:List UInt8:=[71,69,84,32,47,32,72,84,84,80,47,49,46,49,13,10,104,111,115,116,58,32,97,110,121,13,10,13,10]
def Sl.hs:List P.Hst:=[⟨[42],[⟨1,[47],[],[([107,101,101,112],1)],[],[],[]⟩]⟩]
theorem q65q:xm Sl.t=(0,0):=by decide +kernel
theorem q67q:xG Sl.t=qE Sl.hs:=by decide +kernel
theorem zrN:xr (xG Sl.t)=Sl.hs:=by kernel_rfl
theorem q8q:VHs Sl.hs:=by have:=(zkA (l:=Sl.t) (by rw[q65q])).1;rw[zrN] at this;exact this
theorem q57q:Fits Sl.hs:=zoX (by decide +kernel)
theorem q68q:(Yd.new.opened.fedP Sl.hs 0 Sl.rq).sent=[⟨1,[107,101,101,112],Sl.rq⟩]:=by decide +kernel
theorem q63q (a:UInt8)(x:Nat)(hx:x<255):bits BinOp.xor IntKind.u8 (a.toNat:Int) (IntKind.u8.wrap (IntKind.i64.wrap (1+(x:Int))))=((a ^^^ UInt8.ofNat (1+x)).toNat:Int):=by
 have e1:IntKind.u8.wrap (IntKind.i64.wrap (1+(x:Int)))=((1+x:Nat):Int):=by simp[IntKind.wrap,IntKind.bits,IntKind.signed];omega
 have ha:a.toNat<256:=UInt8.toNat_lt a
 have e2:(UInt8.ofNat (1+x)).toNat=1+x:=by rw[UInt8.toNat_ofNat'];omega
 rw[e1,UInt8.toNat_xor,e2]
 have hx:a.toNat ^^^ (1+x)<2 ^ 8:=Nat.xor_lt_two_pow (by omega) (by omega)
 show IntKind.u8.wrap ((BitVec.ofInt 8 (a.toNat:Int) ^^^ BitVec.ofInt 8 ((1+x:Nat):Int)).toNat:Int)=_
 have o:∀n:Nat,n<256->(BitVec.ofInt 8 (n:Int)).toNat=n:=fun n hn=>by rw[BitVec.ofInt_natCast,BitVec.toNat_ofNat];omega
 rw[BitVec.toNat_xor,o _ ha,o _ (by omega)]
 simp[IntKind.wrap,IntKind.bits,IntKind.signed]
 omega
theorem q49q {w:World}(G:G3 w)(s:ByteArray)(bv:s.size<=maxLen)(aa ae ad:Int)(ha:-9223372036854775808<=aa/\aa<=9223372036854775807)(hf:-9223372036854775808<=ae/\ae<=9223372036854775807)(hc:-9223372036854775808<=ad/\ad<=9223372036854775807) :
  Calls Tryz.prog 8 #[.string s,.int .i64 aa,.int .i64 ae,.int .i64 ad] w fun e w'=>e = .returned (.bool true)/\w.grownBy w' none:=by
 obtain⟨i0,hi,aF,ar,aG⟩:=info_parts ja
 have bw:(Tryz.prog.info? 5).map (·.size)=some 1:=by rw[hi];simp[ar]
 have am:=hid (zkV G)
 have an:Y (∀W,w.grownBy W none->Calls Tryz.prog 20 #[.string (R.str Sl.t)] W fun e w'=>∃yb tv cb,e = .returned (.pointer (some ⟨yb,0,none⟩))/\KY W w' yb tv [some cb] Yd.new.opened/\TabAt w' tv Sl.hs):=fun W hW=>
  zkX (G.grown hW) (by decide) q65q q67q q8q q57q (by have:=fb q8q;omega)
 have ah:Y (∀W,w.grownBy W none->Calls Tryz.prog 18 #[.string s] W fun e w'=>∃a k,e = .returned (.tuple #[.slice a (xG s.data.toList).length k,.int .i64 (xm s.data.toList).1,.int .i64 (xm s.data.toList).2])/\w'.ownsRow W.heap.size 5 1 (.slice a (xG s.data.toList).length k) (xG s.data.toList).length (Lib.byteCells (xG s.data.toList))/\W.grownBy w' none):=fun W hW=>fk s W bv (G.grown hW).glob
 generalize s.data.toList=l at*
 by_cases he:(xm l).1=0
 ·obtain⟨hs,hv,hp,_,_⟩:=uV he
  have bH:=q55q hs
  have bI:=fb hv
  rw[hp,he] at ah
  generalize(xm l).2=bm at*
  have aL:=hid (fun(k:Nat) (x:UInt8) (hk:k<(qE hs).length) (hx:x≠0)=>q54q (hs:=hs) hk hx)
  have aM:=hid (fun(j:Nat) (hj:j<(qE hs).length)=>q64q hv hj)
  have aN:=hid (q66q hv)
  clear hp he
  generalize qE hs=pk at*
  have bG:¬(pk.length:Int)<8:=by omega
  have aO:Y (∀W,Calls Tryz.prog 21 #[.int .i64 aa,.int .i64 pk.length] W fun e w'=>e = .returned (.int .i64 (Kp.pick aa pk.length:Nat))/\w'=W):=fun W=>q7q aa pk.length W ha (by omega)
  have aP:Y (∀W,Calls Tryz.prog 21 #[.int .i64 ae,.int .i64 255] W fun e w'=>e = .returned (.int .i64 (Kp.pick ae 255:Nat))/\w'=W):=fun W=>q7q ae 255 W hf (by decide)
  have aQ:Y (∀W,Calls Tryz.prog 21 #[.int .i64 ad,.int .i64 pk.length] W fun e w'=>e = .returned (.int .i64 (Kp.pick ad pk.length:Nat))/\w'=W):=fun W=>q7q ad pk.length W hc (by omega)
  have hk:Kp.pick aa pk.length<pk.length:=Kp.pick_lt aa (by omega)
  have hx:Kp.pick ae 255<255:=Kp.pick_lt ae (by decide)
  have hj:Kp.pick ad pk.length<pk.length:=Kp.pick_lt ad (by omega)
  generalize Kp.pick aa pk.length=k at*
  generalize Kp.pick ae 255=x at*
  generalize Kp.pick ad pk.length=j at*
  obtain⟨mc,ax⟩:∃mc,Y (mc=(madeCells #[Value.int .u8 0] pk.length).toList):=⟨_,rfl⟩
  have bt:mc.length=pk.length:=by rw[ax.o];simp[madeCells]
  obtain⟨X,HX⟩:∃X,Y (X=Lib.byteCells pk):=⟨_,rfl⟩
  have aY:Y (X.length=Nat.min pk.length pk.length):=by show _=_;rw[HX.o,j9];exact(Nat.min_self _).symm
  have bn:X.length=pk.length:=by rw[HX.o,j9]
  clear ha hf hc
  go_enter Tryz.func8,Tryz.ntmps8
  go_wp2_with fail
  refine am.o.mono ?_
  rintro e w1 ⟨rfl,g1⟩
  have G1:=hid g1
  have HC:=hid (ah.o w1 g1)
  clear am ah g1
  go_wp2_with fail
  refine HC.o.mono ?_
  rintro e w2 ⟨ab,kb,rfl,rb,g2⟩
  have G2:=hid (zA G1.o g2)
  have RB:=hid rb
  have ai:=hid (an.o w2 G2.o)
  clear HC an g2 rb G1
  go_wp2_with fail
  refine ai.o.mono ?_
  rintro e w3 ⟨yb,tv,cb,rfl,k3,t3⟩
  have K3:=hid k3
  have T3:=hid t3
  have BB:Y (Kb w3 yb [some cb] (.slice ab pk.length kb) pk):=by
   have bh:=zO RB.o k3.gr (fun k hk c=>by cases c)
   refine⟨RdO.of_row bh,fun kk hkk hF=>?_,fun kk hkk=>(qh bh kk hkk).2⟩
   have q1:=k3.inv.low_all k3.own hF
   have q2:=(qh RB.o kk hkk).2
   omega
  have ak:=hid (qK (zO RB.o k3.gr (fun k hk c=>by cases c)) (zl _))
  obtain⟨gb,bF,eb,_,_⟩:=World.ownsRow.form ak.o (by omega)
  simp only[qc,true_and] at eb
  obtain⟨rfl,rfl⟩:=eb
  clear ai k3 t3 RB
  go_wp2_with fail
  refine(aO.o _).mono ?_
  rintro e W3 ⟨rfl,aZ⟩
  obtain rfl:=aZ.symm
  clear aO aZ
  go_wp2_with (at_make;refine wpList_make_full _ rfl _ _ 32 rfl w3.heap.size 5 i0 (.int .u8 0) 1 Tryz.underlying32 hi aF ar _ _ _ _ pk.length rfl rfl rfl rfl ?b2 ?b3 (zZ _) ?_)
  case b2=>rw[aG];omega
  case b3=>unfold maxLen;omega
  intro w4 bf bd
  have av:Y (w3.grownBy w4 none):=bd
  have aH:Y (w4.heap[w3.heap.size]?=some (.cells mc.toArray 5 (0,0))):=zhL bf ax.o
  clear bf bd
  go_wp2_with (refine wpList_copy_splice rfl _ _ 32 32 rfl 5 Tryz.underlying32 bw _ _ pk.length pk.length pk.length kb rfl rfl w3.heap.size 0 mc 5 aH.o X aY.o ?hpos ?hfit ?h1 w3.heap.size w3 (fN av.o) (zZ _) ?_)
  case hpos=>
   intro hp jj u hu
   rw[HX.o] at hu
   have h0:=xd ak.o jj (by have:=(List.getElem?_eq_some_iff.1 hu).1;rw[j9] at this;omega)
   exact av.o.cell (a:=⟨gb,jj,none⟩) (h0.trans hu) (by simp)
  case hfit=>omega
  case h1=>rw[HX.o];exact zaG _
  intro w5 a6 a5
  have aj:Y (w5.heap[w3.heap.size]?=some (.cells (Lib.byteCells pk).toArray 5 (0,0))):=by
   have e9:splice mc 0 X=Lib.byteCells pk:=by
    unfold splice
    rw[List.take_zero,List.nil_append,Nat.zero_add,List.drop_of_length_le (by omega),xn,HX.o]
   rw[<-e9];exact a6
  have aw:=J (xD a5)
  clear a6 a5 aH av HX aY bn ax bt
  have aC:k<pk.length:=hk
  have bq:(k:Int)<pk.length:=by omega
  have c0:w5.cell? ⟨w3.heap.size,k,none⟩=some (.int .u8 (pk.getD k 0).toNat):=by
   rw[z8 aj.o,List.getElem?_toArray]
   unfold Lib.byteCells
   rw[List.getElem?_map,qN aC,List.getD_eq_getElem?_getD,qN aC];rfl
  have f0:w5.frozen? ⟨w3.heap.size,k,none⟩=false:=zC aj.o
  have bJ:x+1<256:=by omega
  have az:Y (∀W:World,W.heap[w3.heap.size]?=some (.cells (Lib.byteCells pk).toArray 5 (0,0))->w3.grownBy W none->(W.setCell ⟨w3.heap.size,k,none⟩ (.int .u8 (bits BinOp.xor IntKind.u8 (pk[k].toNat:Int) (IntKind.u8.wrap (IntKind.i64.wrap (1+(x:Int))))))).heap[w3.heap.size]?=some (.cells (Lib.byteCells (Kp.cl pk k (UInt8.ofNat (1+x)))).toArray 5 (0,0))/\w3.grownBy (W.setCell ⟨w3.heap.size,k,none⟩ (.int .u8 (bits BinOp.xor IntKind.u8 (pk[k].toNat:Int) (IntKind.u8.wrap (IntKind.i64.wrap (1+(x:Int))))))) none):=fun W hW gW=>by
   refine⟨?_,zY gW (zD _ _ _ _) (zZ _)⟩
   have h9:=zF (i:=k) hW (.int .u8 (bits BinOp.xor IntKind.u8 (pk[k].toNat:Int) (IntKind.u8.wrap (IntKind.i64.wrap (1+(x:Int))))))
   rw[h9,q63q _ _ hx]
   congr 2
   unfold Kp.cl Lib.byteCells
   rw[List.map_set,List.getD_eq_getElem?_getD,qN aC]
   simp
  go_upto_region 11 with fail
  go_cut [14] (fun kv wz=>kv = .int .i64 k/\Y (wz.heap[w3.heap.size]?=some (.cells (Lib.byteCells (Kp.cl pk k (UInt8.ofNat (1+x)))).toArray 5 (0,0)))/\Y (w3.grownBy wz none))
  case first=>
   go_region_law (go_simp;go_at_call 21;refine(aP.o _).mono ?_;rintro e w6 ⟨rfl,rfl⟩)
   all_goals
    go_wp2_with fail
    go_meet
    case rel=>exact⟨rfl,(az.o _ aj.o aw.o).1,zA (az.o _ aj.o aw.o).2 (zQ _)⟩
  case rest=>
   obtain⟨rfl,au,al⟩:=hcut
   clear az c0 f0 aj aw aP
   generalize wc=w6 at*
   have bo:(j:Int)<=pk.length:=by omega
   have bp:(j:Int)<=kb:=by have:=ak.o;rcases this.2 with ⟨q,_⟩ | ⟨_,_,_,q,_,_,q2,_⟩;cases q;simp only[qc] at q;omega
   go_wp2_with fail
   refine(aQ.o _).mono ?_
   rintro e W6 ⟨rfl,a0⟩
   obtain rfl:=a0.symm
   clear aQ a0
   have aJ:Y (∀jj u,(Lib.byteCells pk)[jj]?=some u->w6.cell? ((⟨gb,0,none⟩:Addr).add jj)=some u):=fun jj u hu=>by
    rw[fL,Nat.zero_add]
    have h0:=xd ak.o jj (by have:=(List.getElem?_eq_some_iff.1 hu).1;rw[j9] at this;omega)
    exact al.o.cell (a:=⟨gb,jj,none⟩) (h0.trans hu) (by simp)
   go_wp2_with (at_builtin;refine wpList_append_grows _ rfl (.tmp 80) (.tmp 81) 32 rfl 5 i0 _ 1 1 Tryz.underlying32 hi aF ar aG rfl (by decide) (some ⟨w3.heap.size,0,none⟩) 0 0 [] rfl (fun e=>by cases e) rfl (fun _ _ j u hu=>by simp at hu) ⟨gb,0,none⟩ pk.length kb (Lib.byteCells pk) rfl ?a1 aJ.o (zaG pk) ?a2 ?a3 ?a4 ?_)
   case a1=>rw[j9];omega
   case a2=>omega
   case a3=>unfold maxLen;omega
   case a4=>omega
   intro v7 w7 aq aB
   obtain⟨a7,k7,rfl⟩:=zP aq
   have R7:=hid aq
   have G7:=hid aB
   have bx:=al.o.size
   have HA:=J (zO aq (zJ w7 (.cells #[.int .u8 0] 5) none) (fun k hk c=>by cases c))
   have aI:Y (∀jj u,(Lib.byteCells [0])[jj]?=some u->(w7.alloc (.cells #[.int .u8 0] 5)).cell? ((⟨w7.heap.size,0,none⟩:Addr).add jj)=some u):=qI w7 #[_] _ _ rfl
   have bj:w6.heap.size<=(w7.alloc (.cells #[.int .u8 0] 5)).heap.size:=by have:=aB.size;simp;omega
   clear aq aB aJ
   go_wp2_with (at_builtin;refine wpList_append_own _ rfl (.tmp 83) (.tmp 84) 32 rfl w6.heap.size 5 i0 _ 1 1 Tryz.underlying32 hi aF ar aG rfl (by decide) _ _ _ rfl HA.o ⟨w7.heap.size,0,none⟩ 1 1 (Lib.byteCells [0]) rfl rfl aI.o (zaG [0]) ?b1 ?b2 bj ?_)
   case b1=>unfold maxLen;omega
   case b2=>omega
   intro v8 w8 bg ag _
   have aD:w8.ownsRow w6.heap.size 5 1 v8 (pk++[0]).length (Lib.byteCells (pk++[0])):=by
    rw[Lib.byteCells_append,zW];exact bg
   obtain⟨a8,k8,rfl⟩:=zP aD
   have aE:∀kk,(Value.slice a7 pk.length k7).ownBlock=some kk->w6.heap.size<=kk:=fun kk hkk=>(qh R7.o kk hkk).1
   have af:=zA (zA al.o G7.o) (zJ w7 (.cells #[.int .u8 0] 5) none)
   have bs:=zE au.o
   have ao:w3.grownBy w8 none:=⟨ag.os.trans af.os,ag.tape.trans af.tape,ag.output.trans af.output,zp af.size ag.size,fun kk hk _=>(ag.block kk (yU hk af.size) (fun e=>by have:=aE kk e.symm;omega)).trans (af.block kk hk (by simp))⟩
   have ba:w8.heap[w3.heap.size]?=some (.cells (Lib.byteCells (Kp.cl pk k (UInt8.ofNat (1+x)))).toArray 5 (0,0)):=by
    have h7:=zB (zB au.o G7.o (by simp)) (zJ w7 (.cells #[.int .u8 0] 5) none) (by simp)
    exact qM h7 ag (fun kk hkk e=>by have:=aE kk hkk;omega)
   have K8:=hid (K3.o.grown ao).1
   have M8:=(K3.o.grown ao).2
   have T8:=hid (T3.o.moved M8 K3.o.inv K3.o.own)
   have BS:Y (Kb w8 yb [some cb] (.slice (some ⟨gb,0,none⟩) j kb) (pk.take j)):=(BB.o.moved M8).sub hj
   have ap:=Kp.cl_len pk k (UInt8.ofNat (1+x))
   have BC:Y (Kb w8 yb [some cb] (.slice (some ⟨w3.heap.size,0,none⟩) pk.length pk.length) (Kp.cl pk k (UInt8.ofNat (1+x)))):=by
    have h1:=q34q ba (zZ _) (by rw[ap];unfold maxLen;omega)
    have h2:=Kb.fresh K3.o ao h1
    rw[ap] at h2;exact h2
   have BL:Y (Kb w8 yb [some cb] (.slice a8 (pk++[0]).length k8) (pk++[0])):=Kb.fresh K3.o ao (qK aD (by omega))
   have N1:=hid (aL.o k (UInt8.ofNat (1+x)) hk (fun e=>by have:=congrArg UInt8.toNat e;rw[UInt8.toNat_ofNat'] at this;simp at this;omega))
   have N2:=hid (aM.o j hj)
   have br:(pk++[0]).length=pk.length+1:=by simp
   have bc:(Kp.cl pk k (UInt8.ofNat (1+x))).length<=100000:=by rw[ap];omega
   have bi:(pk.take j).length<=100000:=by rw[List.length_take];omega
   have be:(pk++[0]).length<=100000:=by omega
   clear bg ag aD aE af ba M8 R7 G7 HA aI au al BB ak K3 T3 aL aM ap br bo bp bq bx bj bs
   generalize Kp.cl pk k (UInt8.ofNat (1+x))=cl at*
   generalize pk.take j=sh at*
   generalize pk++[0]=lo at*
   have G8:=hid (zA G2.o K8.o.gr)
   have aA:Y (∀W v b,w.grownBy W none->Kb W yb [some cb] v b->b.length<=100000->(∀hs,VHs hs->qE hs≠b)->Calls Tryz.prog 19 #[v] W fun e w'=>e = .returned (.tuple #[.string ⟨#[]⟩,.int .i64 6])/\W.grownBy w' none):=fun W v b hW hb hl hno=>by
    refine(zhZ hb.rd (fun g o n c e=>hb.lt g (by rw[e];rfl)) (by omega) (G.grown hW).glob (G.grown hW).gt).mono ?_
    rintro e w' ⟨g,⟨bu,h1,h2,h3⟩ | ⟨_,h2⟩⟩
    ·exact absurd h2 (hno bu h1)
    ·exact⟨h2,g⟩
   have ay:Y (∀W v b,KY w2 W yb tv [some cb] Yd.new.opened->Kb W yb [some cb] v b->b.length<=100000->(∀hs,VHs hs->qE hs≠b)->Calls Tryz.prog 22 #[.pointer (some ⟨yb,0,none⟩),v] W fun e w'=>e = .returned (.int .i64 6)/\KY w2 w' yb tv [some cb] Yd.new.opened/\YMv W w' yb [some cb] [some cb]):=fun W v b hK hb hl hno=>by
    refine(hK.push_no (G.grown G2.o) hb (by omega) hno).mono ?_
    rintro e w' ⟨q1,q2,q3,_⟩
    exact⟨q1,q2,q3⟩
   have aU:Y (∀W,KY w2 W yb tv [some cb] Yd.new.opened->TabAt W tv Sl.hs->Calls Tryz.prog 23 #[.pointer (some ⟨yb,0,none⟩),.string (R.str Sl.rq)] W fun e w'=>∃a k ps',e = .returned (.slice a 1 k)/\w2.grownBy w' none/\Held w' yb ps' (.slice a 1 k) [⟨1,[107,101,101,112],Sl.rq⟩]):=fun W hK hT=>by
    refine(zkW (G.grown G2.o) hK hT q57q q8q.ok Sl.rq (by decide) (by decide) (by decide) (by decide) (by show 1<=1000000;decide)).mono ?_
    rintro e w' ⟨a,k,ps',q1,q2,q3,q4,q5,q6⟩
    rw[q68q] at q1 q5
    exact⟨a,k,ps',q1,q2.gr,q5⟩
   have aV:=hid (aA.o w8 _ cl G8.o BC.o bc N1.o)
   go_wp2_with fail
   refine aV.o.mono ?_
   rintro e w9 ⟨rfl,gn⟩
   have mn:=(K8.o.grown gn).2
   replace T8:=hid (T8.o.moved mn K8.o.inv K8.o.own)
   replace BC:=hid (BC.o.moved mn)
   replace BS:=hid (BS.o.moved mn)
   replace BL:=hid (BL.o.moved mn)
   replace K8:=hid (K8.o.grown gn).1
   replace G8:=hid (zA G8.o gn)
   clear aV gn mn
   have aX:=hid (aA.o w9 _ sh G8.o BS.o bi N2.o)
   go_wp2_with fail
   refine aX.o.mono ?_
   rintro e bz ⟨rfl,gn⟩
   have mn:=(K8.o.grown gn).2
   replace T8:=hid (T8.o.moved mn K8.o.inv K8.o.own)
   replace BC:=hid (BC.o.moved mn)
   replace BS:=hid (BS.o.moved mn)
   replace BL:=hid (BL.o.moved mn)
   replace K8:=hid (K8.o.grown gn).1
   replace G8:=hid (zA G8.o gn)
   clear aX gn mn
   have aW:=hid (aA.o bz _ lo G8.o BL.o be aN.o)
   go_wp2_with fail
   refine aW.o.mono ?_
   rintro e bA ⟨rfl,gn⟩
   have mn:=(K8.o.grown gn).2
   replace T8:=hid (T8.o.moved mn K8.o.inv K8.o.own)
   replace BC:=hid (BC.o.moved mn)
   replace BS:=hid (BS.o.moved mn)
   replace BL:=hid (BL.o.moved mn)
   replace K8:=hid (K8.o.grown gn).1
   replace G8:=hid (zA G8.o gn)
   clear aW gn mn
   have aR:=hid (ay.o bA _ cl K8.o BC.o bc N1.o)
   go_wp2_with fail
   refine aR.o.mono ?_
   rintro e bB ⟨rfl,kn,mn⟩
   replace T8:=hid (T8.o.moved mn K8.o.inv K8.o.own)
   replace BC:=hid (BC.o.moved mn)
   replace BS:=hid (BS.o.moved mn)
   replace BL:=hid (BL.o.moved mn)
   replace K8:=hid kn
   clear aR kn mn
   have aT:=hid (ay.o bB _ sh K8.o BS.o bi N2.o)
   go_wp2_with fail
   refine aT.o.mono ?_
   rintro e bC ⟨rfl,kn,mn⟩
   replace T8:=hid (T8.o.moved mn K8.o.inv K8.o.own)
   replace BC:=hid (BC.o.moved mn)
   replace BS:=hid (BS.o.moved mn)
   replace BL:=hid (BL.o.moved mn)
   replace K8:=hid kn
   clear aT kn mn
   have aS:=hid (ay.o bC _ lo K8.o BL.o be aN.o)
   go_wp2_with fail
   refine aS.o.mono ?_
   rintro e bD ⟨rfl,kn,mn⟩
   replace T8:=hid (T8.o.moved mn K8.o.inv K8.o.own)
   replace BC:=hid (BC.o.moved mn)
   replace BS:=hid (BS.o.moved mn)
   replace BL:=hid (BL.o.moved mn)
   replace K8:=hid kn
   clear aS kn mn
   have aK:=hid (aU.o bD K8.o T8.o)
   clear aU K8 T8
   go_wp2_with fail
   refine aK.o.mono ?_
   rintro e bE ⟨a9,k9,bK,rfl,g9,h9⟩
   obtain⟨g,rfl,bb⟩:=q62q h9
   have c1:bE.cell? ⟨g,1,none⟩=some (.string ⟨#[107,101,101,112]⟩):=(bb 1 (by decide)).trans rfl
   have bl:=hid (zA G2.o g9)
   clear aK bb h9 g9
   go_wp2
   go_ret
   exact⟨rfl,bl.o⟩
 ·generalize xm l=er at*
  obtain⟨e0,bm⟩:=er
  simp only at he ah
  generalize xG l=pk at*
  go_enter Tryz.func8,Tryz.ntmps8
  go_wp2_with fail
  refine am.o.mono ?_
  rintro e w1 ⟨rfl,g1⟩
  have G1:=hid g1
  have HC:=hid (ah.o w1 g1)
  clear am ah g1
  go_wp2_with fail
  refine HC.o.mono ?_
  rintro e w2 ⟨ab,kb,rfl,rb,g2⟩
  have G2:=hid (zA G1.o g2)
  have ai:=hid (an.o w2 G2.o)
  clear HC an g2 rb G1
  go_wp2_with fail
  refine ai.o.mono ?_
  rintro e w3 ⟨yb,tv,cb,rfl,k3,t3⟩
  have bk:=hid (zA G2.o k3.gr)
  clear ai k3 t3 G2
  go_wp2
  go_ret
  exact⟨za (by simp[he]),bk.o⟩
end Go.Proofs.YtfocdefchbnkpaaGreatDoor
