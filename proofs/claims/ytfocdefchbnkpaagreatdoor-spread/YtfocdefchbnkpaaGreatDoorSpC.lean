/- Of as many numbers one behind the other as the weights sum up to, just so many go to each target. -/
import Derived.Test.YtfocdefchbnkpaaGreatDoorAli
import Derived.Test.YtfocdefchbnkpaaGreatDoorSpA
import Derived.Deep.DeepCutAuto
set_option maxRecDepth 100000
set_option maxHeartbeats 20000000
namespace Go.Proofs.YtfocdefchbnkpaaGreatDoor
open Go.RowKit
def Sp.raw (zs:List Int)(i:Nat):Nat:=if h:i<zs.length then Kp.pick zs[i] 9 else 1
def Sp.k (zs:List Int)(i:Nat):Nat:=if i=3/\Sp.raw zs i=0 then 2 else Sp.raw zs i
theorem q84q (zs:List Int)(i:Nat):Sp.raw zs i<9:=by
 unfold Sp.raw
 split
 ·exact Kp.pick_lt _ (by decide)
 ·decide
theorem k_lt (zs:List Int)(i:Nat):Sp.k zs i<9:=by
 unfold Sp.k
 split
 ·decide
 ·exact q84q zs i
theorem ztI (zs:List Int):Sp.k zs 3≠0:=by
 unfold Sp.k
 split
 ·decide
 ·rename_i h
  exact fun e=>h ⟨rfl,e⟩
def Sp.x (n:Nat):UInt8:=UInt8.ofNat (48+n)
theorem q74q:∀n,n<9->Sp.dig (Sp.x n)/\Sp.w (Sp.x n)=n/\(Sp.x n=48↔n=0)
 | 0,_=>⟨Or.inl rfl,rfl,by decide⟩
 | 1,_=>⟨Or.inr (Or.inl rfl),rfl,by decide⟩
 | 2,_=>⟨Or.inr (Or.inr (Or.inl rfl)),rfl,by decide⟩
 | 3,_=>⟨Or.inr (Or.inr (Or.inr (Or.inl rfl))),rfl,by decide⟩
 | 4,_=>⟨Or.inr (Or.inr (Or.inr (Or.inr (Or.inl rfl)))),rfl,by decide⟩
 | 5,_=>⟨Or.inr (Or.inr (Or.inr (Or.inr (Or.inr (Or.inl rfl))))),rfl,by decide⟩
 | 6,_=>⟨Or.inr (Or.inr (Or.inr (Or.inr (Or.inr (Or.inr (Or.inl rfl)))))),rfl,by decide⟩
 | 7,_=>⟨Or.inr (Or.inr (Or.inr (Or.inr (Or.inr (Or.inr (Or.inr (Or.inl rfl))))))),rfl,by decide⟩
 | 8,_=>⟨Or.inr (Or.inr (Or.inr (Or.inr (Or.inr (Or.inr (Or.inr (Or.inr rfl))))))),rfl,by decide⟩
 | n+9,h=>by omega
theorem q41q (n:Nat)(h:n<9):R.dec n=[Sp.x n]:=by
 unfold R.dec
 rw[if_pos (by omega)]
 rfl
def Sp.pre:List UInt8:=[104,111,115,116,34,42,34,123,114,117,108,101,32,49,123,112,97,116,104,34,47,111,110,101,34,59,116,111,34,111,110,101,34,57,44,34,110,111,110,101,34,48,59,125,114,117,108,101,32,50,123,112,97,116,104,34,47,34,59,116,111,32]
def Sp.comma (i:Nat):List UInt8:=if i=0 then [] else [44]
def Sp.part (f:Nat->Nat)(i:Nat):List UInt8:=[34]++(Sp.nm i++([34]++R.dec (f i)))
def Sp.txt (f:Nat->Nat):Nat->List UInt8
 | 0=>Sp.pre
 | i+1=>(Sp.txt f i++Sp.comma i)++Sp.part f i
def Sp.tot (f:Nat->Nat):Nat->Nat
 | 0=>0
 | i+1=>Sp.tot f i+f i
theorem q73q (f:Nat->Nat)(hf:∀i,f i<9):∀i,(Sp.txt f i).length<=62+5*i
 | 0=>zZ 62
 | i+1=>by
  have:=q73q f hf i
  have h2:(Sp.comma i).length<=1:=by unfold Sp.comma;split <;> decide
  have h3:(Sp.part f i).length=4:=by unfold Sp.part;rw[q41q _ (hf i)];rfl
  rw[Sp.txt,zW,zW]
  omega
theorem q120q (f:Nat->Nat)(hf:∀i,f i<9):∀i,Sp.tot f i<=8*i
 | 0=>zZ _
 | i+1=>by
  have:=q120q f hf i
  have:=hf i
  rw[Sp.tot];omega
theorem q121q (f:Nat->Nat)(hf:∀i,f i<9):Sp.txt f 4++[59,125,125]=Sp.t (Sp.x (f 0)) (Sp.x (f 1)) (Sp.x (f 2)) (Sp.x (f 3)):=by
 simp only[Sp.txt,Sp.part]
 rw[q41q _ (hf 0),q41q _ (hf 1),q41q _ (hf 2),q41q _ (hf 3)]
 rfl
def Sp.A4 (f:Nat->Value):Array Value:=#[f 0,f 1,f 2,f 3]
theorem at4 (f:Nat->Value):∀n,n<4->(Sp.A4 f)[n]?=some (f n)
 | 0,_=>rfl
 | 1,_=>rfl
 | 2,_=>rfl
 | 3,_=>rfl
 | n+4,h=>by omega
theorem zt9 (f:Nat->Value)(v:Value):∀n,n<4->(Sp.A4 f).setIfInBounds n v=Sp.A4 fun x=>if x=n then v else f x
 | 0,_=>rfl
 | 1,_=>rfl
 | 2,_=>rfl
 | 3,_=>rfl
 | n+4,h=>by omega
def Sp.row (f:Nat->Nat)(i:Nat):List Value:=(List.range i).map fun j=>.int .i64 (f j:Nat)
theorem q85q (f:Nat->Nat)(i:Nat):Sp.row f (i+1)=Sp.row f i++[.int .i64 (f i:Nat)]:=by unfold Sp.row;rw[List.range_succ,xy];rfl
theorem ztT (f:Nat->Nat)(n i:Nat)(h:i<n):(Sp.row f n)[i]?=some (.int .i64 (f i:Nat)):=by unfold Sp.row;simp[h]
structure Sp.L (wA wr:World) (f:Nat->Nat) (v:Value) (i:Nat):Prop where
 gr:wA.grownBy wr none
 row:wr.ownsRow wA.heap.size 3 1 v i (Sp.row f i)
theorem Sp.L.keep {wA wr wq:World}{f:Nat->Nat}{v:Value}{i:Nat}(h:Sp.L wA wr f v i)(g:wr.grownBy wq none):Sp.L wA wq f v i:=
 ⟨zA h.gr g,zO h.row g (fun k hk c=>by cases c)⟩
theorem Sp.L.more {wA wr w9:World}{f:Nat->Nat}{v:Value}{i g aa:Nat}{o:Obj}(h:Sp.L wA wr f v i)(ho:w9.ownsRow wA.heap.size 3 1 (.slice (some ⟨g,0,none⟩) (i+1) aa) (i+1) (Sp.row f i++[.int .i64 (f i:Nat)]))(hg:(wr.alloc o).grownBy w9 v.ownBlock):Sp.L wA w9 f (.slice (some ⟨g,0,none⟩) (i+1) aa) (i+1):=
 ⟨x9 (zA h.gr (zJ wr o none)) hg (fun k hk=>(qh h.row k hk).1),by rw[q85q];exact ho⟩
def Sp.y (d:Nat->UInt64)(i:Nat):Yd:=⟨(List.range i).map d,[some (.hd Rq.zero)],[]⟩
theorem zu7 (d:Nat->UInt64)(i:Nat):(Sp.y d i).draw (d i)=Sp.y d (i+1):=by
 unfold Sp.y Yd.draw
 rw[List.range_succ,xy]
 rfl
def Sp.ds (tg:List (List UInt8×Int))(d:Nat->UInt64)(n i:Nat):List UInt64:=if tg.length=1 then (List.range n).map d else ((List.range n).map d).drop i
def Sp.z (tg:List (List UInt8×Int))(d:Nat->UInt64)(n i:Nat):Yd:=⟨Sp.ds tg d n i,[some (.hd Rq.zero)],[]⟩
theorem zu8 (tg:List (List UInt8×Int))(d:Nat->UInt64)(n:Nat):Sp.y d n=Sp.z tg d n 0:=by
 unfold Sp.y Sp.z Sp.ds
 split <;> simp
theorem zuG (tg:List (List UInt8×Int))(d:Nat->UInt64)(n i:Nat)(h:i<n):(Sp.z tg d n i).fedP (Sp.hs tg) 0 Sp.req=⟨Sp.ds tg d n (i+1),[some (.hd Rq.zero)],[⟨1,[111,110,101],Sp.d1⟩,⟨1,Tr.target (d i) tg,Sp.d2⟩]⟩:=by
 unfold Sp.z
 rw[ztZ]
 unfold Sp.ds Tr.left
 by_cases h1:tg.length=1
 ·simp only[if_pos h1]
  match tg,h1 with
  | [t],_=>rfl
 ·simp only[if_neg h1]
  have e:((List.range n).map d).drop i=d i :: ((List.range n).map d).drop (i+1):=by
   rw[List.drop_eq_getElem_cons (by simpa using h)]
   simp
  rw[e]
  rfl
theorem ztE (tg:List (List UInt8×Int))(d:Nat->UInt64)(n i:Nat):(Sp.ds tg d n i).length<=n:=by
 unfold Sp.ds
 split
 ·simp
 ·simp
structure Sp.I (w0 w2 wr:World) (yb gz:Nat) (tv:Value) (ps0 ps:List (Option Nat)) (y:Yd) (c:Nat->Nat):Prop where
 ky:KY w0 wr yb tv ps y
 mv:YMv w2 wr yb ps0 ps
 len:ps.length=1
 blk:wr.heap[gz]?=some (.cells (Sp.A4 fun n=>.int .i64 (c n:Nat)) 3)
 ap:¬YF wr yb ps gz
 low:w2.heap.size<=gz
 le:w0.heap.size<=w2.heap.size
theorem Sp.I.move {w0 w2 wr w':World}{yb gz:Nat}{tv:Value}{aa ps ps':List (Option Nat)}{y y':Yd}{c:Nat->Nat}(h:Sp.I w0 w2 wr yb gz tv aa ps y c)(k:KY w0 w' yb tv ps' y')(m:YMv wr w' yb ps ps')(hl:ps'.length=ps.length):Sp.I w0 w2 w' yb gz tv aa ps' y' c where
 ky:=k
 mv:=h.mv.trans m
 len:=hl.trans h.len
 blk:=(m.turn.block gz (zE h.blk) h.ap).trans h.blk
 ap:=fun hF=>by
  rcases m.foot gz hF with q | q
  ·exact h.ap q
  ·have:=zE h.blk;omega
 low:=h.low
 le:=h.le
theorem Sp.I.keep {w0 w2 wr w':World}{yb gz:Nat}{tv:Value}{aa ps:List (Option Nat)}{y:Yd}{c:Nat->Nat}(h:Sp.I w0 w2 wr yb gz tv aa ps y c)(g:wr.grownBy w' none):Sp.I w0 w2 w' yb gz tv aa ps y c:=by
 obtain⟨k,m⟩:=h.ky.grown g
 exact h.move k m rfl
theorem Sp.I.set {w0 w2 wr:World}{yb gz:Nat}{tv:Value}{aa ps:List (Option Nat)}{y:Yd}{c:Nat->Nat}(h:Sp.I w0 w2 wr yb gz tv aa ps y c)(n v:Nat)(hn:n<4):Sp.I w0 w2 (wr.setCell ⟨gz,n,none⟩ (.int .i64 (v:Nat))) yb gz tv aa ps y (fun x=>if x=n then v else c x):=by
 have gs:=zD wr gz n (.int .i64 (v:Nat))
 have hk:∀k,YF wr yb ps k->(wr.setCell ⟨gz,n,none⟩ (.int .i64 (v:Nat))).heap[k]?=wr.heap[k]?:=fun k hF=>gs.block k (h.ky.inv.lt h.ky.own hF) (fun e=>h.ap (by cases e;exact hF))
 obtain⟨i1,f1⟩:=h.ky.inv.keep gs.size hk
 have hb:w0.heap.size<=gz:=zp h.le h.low
 have h9:=zF (i:=n) h.blk (.int .i64 (v:Nat))
 rw[zt9 _ _ n hn] at h9
 exact {
  ky:=⟨i1,zY h.ky.gr gs hb,h.ky.own,h.ky.ok⟩
  mv:=⟨⟨gs.os.trans h.mv.turn.os,gs.tape.trans h.mv.turn.tape,gs.output.trans h.mv.turn.output,zp h.mv.turn.size gs.size,fun k hk2 hn2=>(gs.block k (yU hk2 h.mv.turn.size) (fun e=>by cases e;have:=h.low;omega)).trans (h.mv.turn.block k hk2 hn2)⟩,fun k hF=>h.mv.foot k (f1 k hF)⟩
  len:=h.len
  blk:=by
   rw[h9]
   congr 2
   apply congrArg
   funext x
   split <;> rfl
  ap:=fun hF=>h.ap (f1 gz hF)
  low:=h.low
  le:=h.le }
theorem zsB {w0 wr:World}{yb cb:Nat}{tv:Value}{d:Nat->UInt64}{i:Nat}{hs:List P.Hst}(k:KY w0 wr yb tv [some cb] (Sp.y d i))(t:TabAt wr tv hs)(hi:i<=100) :
  Calls Tryz.prog 32 #[.pointer (some ⟨yb,0,none⟩),.int .u64 (d i).toNat] wr fun e w'=>e = .returned (.tuple #[])/\KY w0 w' yb tv [some cb] (Sp.y d (i+1))/\TabAt w' tv hs:=by
 refine(zn8 k.inv k.own (d i) (by unfold Sp.y;simp;omega) k.gr.size).mono ?_
 rintro e w' ⟨rfl,h1,h2⟩
 rw[zu7] at h1
 exact⟨rfl,k.move h2 h1 k.own k.ok,t.moved h2 k.inv k.own⟩
theorem zsF {w0 w2 wr:World}(G:G3 w0){yb gz:Nat}{tv:Value}{aa ps:List (Option Nat)}{c:Nat->Nat}{tg:List (List UInt8×Int)}{d:Nat->UInt64}{n i:Nat}{y2:Yd}(hV:VHs (Sp.hs tg))(K2:KY w0 w2 yb tv aa y2)(T2:TabAt w2 tv (Sp.hs tg))(h:Sp.I w0 w2 wr yb gz tv aa ps (Sp.z tg d n i) c)(hi:i<n)(hn:n<=100) :
  Calls Tryz.prog 23 #[.pointer (some ⟨yb,0,none⟩),.string (R.str Sp.req)] wr fun e w'=>∃gl k cs,e = .returned (.slice (some ⟨gl,0,none⟩) 2 k)/\(∃ps',Y (Sp.I w0 w2 w' yb gz tv aa ps' (Sp.z tg d n (i+1)) c))/\Y (w'.heap[gl]?=some (.cells cs 44))/\Y (cs[1]?=some (.string ⟨#[111,110,101]⟩))/\Y (cs[4]?=some (.string (R.str (Tr.target (d i) tg)))):=by
 refine(zkW G h.ky (T2.moved h.mv K2.inv K2.own) (q70q tg) hV.ok Sp.req rfl (by decide) (zl _) (by have:=ztE tg d n i;show(Sp.ds tg d n i).length<=_;omega) (by have:=h.len;omega)).mono ?_
 rw[zuG tg d n i hi]
 rintro e w' ⟨a,k,ps',rfl,k1,_,m1,hd,hl⟩
 rcases hd.row with ⟨_,⟨_,e⟩ | ⟨g,cap,cur,e1,_,hb,_,_,_,htk⟩⟩
 ·cases e
 ·simp only[qc] at e1
  obtain⟨rfl,_,rfl⟩:=e1
  have hc:∀j,j<6->cur[j]?=(evCells [⟨1,[111,110,101],Sp.d1⟩,⟨1,Tr.target (d i) tg,Sp.d2⟩])[j]?:=fun j hj=>by
   rw[<-htk,List.getElem?_take,if_pos (by show j<2*3;omega)]
   simp
  exact⟨g,k,cur,rfl,⟨ps',h.move k1 m1 hl⟩,hb,(hc 1 (by decide)).trans rfl,(hc 4 (by decide)).trans rfl⟩
theorem Sp.I.congr {w0 w2 wr:World}{yb gz:Nat}{tv:Value}{aa ps:List (Option Nat)}{y:Yd}{c c':Nat->Nat}(h:Sp.I w0 w2 wr yb gz tv aa ps y c)(e:∀x,x<4->c x=c' x):Sp.I w0 w2 wr yb gz tv aa ps y c':=
 ⟨h.ky,h.mv,h.len,by rw[h.blk];unfold Sp.A4;simp only[e 0 (by decide),e 1 (by decide),e 2 (by decide),e 3 (by decide)],h.ap,h.low,h.le⟩
theorem Sp.I.start {w0 w2:World}{yb cb:Nat}{tv:Value}{y:Yd}(h:KY w0 w2 yb tv [some cb] y):Sp.I w0 w2 (w2.alloc (.cells #[.int .i64 0,.int .i64 0,.int .i64 0,.int .i64 0] 3)) yb w2.heap.size tv [some cb] [some cb] y (fun _=>0):=by
 have g:=zJ w2 (.cells #[.int .i64 0,.int .i64 0,.int .i64 0,.int .i64 0] 3) none
 obtain⟨k,m⟩:=h.grown g
 refine⟨k,m,rfl,q4q [_] w2 0 _ rfl,fun hF=>?_,zZ _,h.gr.size⟩
 have h1:=(h.inv.keep g.size (fun k hk=>g.block k (h.inv.lt h.own hk) (by simp))).2 _ hF
 have:=h.inv.lt h.own h1
 omega
def Sp.c (tg:List (List UInt8×Int))(d:Nat->UInt64)(i k:Nat):Nat:=Sp.cnt (fun j=>decide (Tr.target (d j) tg=Sp.nm k)) 0 i
theorem c_le (tg:List (List UInt8×Int))(d:Nat->UInt64):∀i k,Sp.c tg d i k<=i
 | 0,_=>zZ _
 | i+1,k=>by
  have:=c_le tg d i k
  unfold Sp.c at this ⊢
  rw[Sp.cnt]
  split <;> omega
theorem ztC (tg:List (List UInt8×Int))(d:Nat->UInt64)(i k:Nat):Sp.c tg d (i+1) k=Sp.c tg d i k+(if decide (Tr.target (d i) tg=Sp.nm k)=true then 1 else 0):=by
 unfold Sp.c
 rw[Sp.cnt,Nat.zero_add]
def Sp.mid (a b:Nat->Nat)(k x:Nat):Nat:=if x<k then b x else a x
theorem Sp.I.ev {w0 w2 wr:World}{yb gz gl:Nat}{tv:Value}{aa ps:List (Option Nat)}{y:Yd}{c:Nat->Nat}{cs:Array Value}(h:Sp.I w0 w2 wr yb gz tv aa ps y c)(he:wr.heap[gl]?=some (.cells cs 44))(n:Nat)(v:Value):(wr.setCell ⟨gz,n,none⟩ v).heap[gl]?=some (.cells cs 44):=by
 have gs:=zD wr gz n v
 refine zB he gs ?_
 intro e
 have e2:gz=gl:=(qk e).symm
 have:=h.blk
 rw[e2,he] at this
 simp at this
theorem q81q:(Tryz.prog.info? 3).map (fun i=>(i.zero,i.size,i.bytes))=some (some (.int .i64 0),1,8):=by kernel_rfl
theorem q82q (n:Nat):(R.str (Sp.nm n)).size<=1:=by rw[R.str_size];exact zZ 1
theorem zu0 {t p:List UInt8}{n k:Nat}(h:p=[34]++(Sp.nm n++([34]++R.dec k))):R.str t++⟨#[34]⟩++R.str (Sp.nm n)++⟨#[34]⟩++R.str (R.dec k)=R.str (t++p):=by
 have e2:(⟨#[34]⟩:ByteArray)=R.str [34]:=rfl
 rw[e2,q3q,q3q,q3q,q3q,h]
 simp only[xY]
theorem zuC {t:List UInt8}{n:Nat}(h:t.length<=200):(R.str t).size<=200/\(R.str t++⟨#[34]⟩).size<=201/\(R.str t++⟨#[34]⟩++R.str (Sp.nm n)).size<=202/\(R.str t++⟨#[34]⟩++R.str (Sp.nm n)++⟨#[34]⟩).size<=203:=by
 have e:(R.str t).size<=200:=by rw[R.str_size];exact h
 have e1:=q82q n
 have e2:(⟨#[34]⟩:ByteArray).size=1:=rfl
 simp only[ByteArray.size_append]
 omega
def Sp.base (fr n:Nat):Nat:=fr / n*n / 2
def Sp.d (fr n:Nat)(i:Nat):UInt64:=UInt64.ofNat (Sp.base fr n+i)
theorem zuA {fr n:Nat}(h:fr<18446744073709551616){i:Nat}(hi:i<=100):(Sp.d fr n i).toNat=Sp.base fr n+i:=by
 unfold Sp.d
 rw[UInt64.toNat_ofNat']
 have h1:fr / n*n<=fr:=Nat.div_mul_le_self fr n
 have h2:Sp.base fr n<=9223372036854775808:=by unfold Sp.base;omega
 exact Nat.mod_eq_of_lt (by omega)
theorem q8q (a:Nat)(h:a<18446744073709551616):IntKind.u64.wrap (a:Int)=a:=by
 simp[IntKind.wrap,IntKind.bits,IntKind.signed];omega
theorem ztV {fr n i:Nat}(h:fr<18446744073709551616)(hi:i<=100):IntKind.u64.wrap (IntKind.u64.wrap ((IntKind.u64.wrap (IntKind.u64.wrap ((fr:Int) / n)*n)).tdiv 2)+i)=((Sp.base fr n+i:Nat):Int):=by
 have h1:fr / n*n<=fr:=Nat.div_mul_le_self fr n
 have h2:Sp.base fr n<=9223372036854775808:=by unfold Sp.base;omega
 have e1:((fr:Int) / n)=((fr / n:Nat):Int):=by simp
 have h3:fr / n<=fr:=Nat.div_le_self _ _
 rw[e1,q8q _ (by omega)]
 have e2:((fr / n:Nat):Int)*n=((fr / n*n:Nat):Int):=by simp
 rw[e2,q8q _ (by omega)]
 have e3:((fr / n*n:Nat):Int).tdiv 2=((Sp.base fr n:Nat):Int):=by unfold Sp.base;rw[Int.tdiv_eq_ediv_of_nonneg (by omega)];omega
 rw[e3,q8q _ (by omega)]
 have e4:((Sp.base fr n:Nat):Int)+i=((Sp.base fr n+i:Nat):Int):=by simp
 rw[e4,q8q _ (by omega)]
theorem q9q {w:World}(G:G3 w)(ao:Option Addr)(ad:Nat)(zs:List Int)(hz:Zs w ao zs)(fr:Nat)(a9:fr<18446744073709551616) :
  Calls Tryz.prog 11 #[.slice ao zs.length ad,.int .u64 fr] w fun e w'=>e = .returned (.bool true)/\w.grownBy w' none:=by
 obtain⟨i0,af,bw,bx,bz⟩:=info_parts q81q
 have aP:=hid (zkV G)
 have az:Y (∀(i:Nat) (h:i<zs.length) W,Calls Tryz.prog 21 #[.int .i64 zs[i],.int .i64 9] W fun e w'=>e = .returned (.int .i64 (Sp.raw zs i:Nat))/\w'=W):=fun i h W=>by
  obtain⟨_,_,_,_,hb⟩:=hz i h
  have:=q83q zs[i] 9 W hb (by decide)
  unfold Sp.raw
  rw[dif_pos h]
  exact this
 have aD:Y (∀i (h:i<zs.length) W,w.grownBy W none->∃b o,ao=some ⟨b,o,none⟩/\W.cell? ⟨b,o+i,none⟩=some (.int .i64 zs[i])):=fun i h W g=>by
  obtain⟨b,o,e1,e2,_⟩:=hz i h
  exact⟨b,o,e1,g.cell e2 (by simp)⟩
 have ay:Y (∀(i:Nat) W,i<9->Calls Tryz.prog 25 #[.int .i64 i] W fun e w'=>e = .returned (.string (R.str (R.dec i)))/\w'=W):=fun i W hi=>q58q i W (by omega)
 have hf:=k_lt zs
 have hr:=q84q zs
 have hl:=ztI zs
 have HF:Y (∀i,Sp.k zs i=if i=3/\Sp.raw zs i=0 then 2 else Sp.raw zs i):=fun i=>rfl
 have aA:Y (∀i,¬i<zs.length->Sp.raw zs i=1):=fun i h=>by unfold Sp.raw;rw[dif_neg h]
 generalize Sp.k zs=f at*
 generalize Sp.raw zs=r at*
 have aj:=hid (q73q f hf)
 have aC:=hid (q120q f hf)
 obtain⟨a1,a2,a3⟩:=q74q (f 0) (hf 0)
 obtain⟨b1,b2,b3⟩:=q74q (f 1) (hf 1)
 obtain⟨c1,c2,c3⟩:=q74q (f 2) (hf 2)
 obtain⟨d1,d2,d3⟩:=q74q (f 3) (hf 3)
 have al:Sp.x (f 3)≠48:=fun e=>hl (d3.1 e)
 obtain⟨tg,ag⟩:∃tg,tg=Sp.tg (Sp.x (f 0)) (Sp.x (f 1)) (Sp.x (f 2)) (Sp.x (f 3)):=⟨_,rfl⟩
 have hV:VHs (Sp.hs tg):=by rw[ag];exact q119q (q90q al) (q80q _ _ _ _) (zu2 a1 b1 c1 d1)
 have bf:Tr.sum tg=Sp.tot f 4:=by
  rw[ag,zu5 a1 b1 c1 d1,a2,b2,c2,d2]
  show _=0+f 0+f 1+f 2+f 3
  simp
 have aU:Y (∀k,k<4->Sp.of (Sp.nm k) tg=f k):=fun k hk=>by
  rw[ag,zuF a1 b1 c1 d1 k hk]
  match k,hk with
  | 0,_=>show(Sp.w (Sp.x (f 0))).toNat=_;rw[a2];rfl
  | 1,_=>show(Sp.w (Sp.x (f 1))).toNat=_;rw[b2];rfl
  | 2,_=>show(Sp.w (Sp.x (f 2))).toNat=_;rw[c2];rfl
  | 3,_=>show(Sp.w (Sp.x (f 3))).toNat=_;rw[d2];rfl
 have a0:Y (∀W,w.grownBy W none->Calls Tryz.prog 20 #[.string (R.str (Sp.txt f 4)++⟨#[59,125,125]⟩)] W fun e w'=>∃yb tv cb,e = .returned (.pointer (some ⟨yb,0,none⟩))/\KY W w' yb tv [some cb] Yd.new.opened/\TabAt w' tv (Sp.hs tg)):=fun W hW=>by
  have e3:(⟨#[59,125,125]⟩:ByteArray)=R.str [59,125,125]:=rfl
  rw[e3,q3q,q121q f hf]
  exact zkX (G.grown hW) (by show 84<=1000000;decide) (q86q a1 b1 c1 d1 al) (by rw[zsE a1 b1 c1 d1 al,ag]) hV (q70q tg) (by have:=fb hV;omega)
 have bH:0<Sp.tot f 4:=by
  show 0<0+f 0+f 1+f 2+f 3
  omega
 have bC:Sp.tot f 4<=32:=aC.o 4
 have HD:Y (∀i,i<=100->(Sp.d fr (Sp.tot f 4) i).toNat=Sp.base fr (Sp.tot f 4)+i):=fun i hi=>zuA a9 hi
 have aL:Y (∀k,k<4->Sp.cnt (fun i=>decide (Tr.target (Sp.d fr (Sp.tot f 4) i) tg=Sp.nm k)) 0 (Sp.tot f 4)=f k):=fun k hk=>by
  rw[<-aU.o k hk,<-q64q (Sp.nm k) tg (Sp.base fr (Sp.tot f 4)) (Sp.d fr (Sp.tot f 4)) (fun i hi=>HD.o i (by omega)),bf]
 have HV:=hid hV
 have HG:=hid G
 have a7:Sp.base fr (Sp.tot f 4)=fr / Sp.tot f 4*Sp.tot f 4 / 2:=rfl
 have bp:fr / Sp.tot f 4*Sp.tot f 4<=fr:=Nat.div_mul_le_self _ _
 have bh:=hid a7
 clear hz hV bf ag a1 a2 a3 b1 b2 b3 c1 c2 c3 d1 d2 d3 al hl aU a7
 go_enter Tryz.func11,Tryz.ntmps11
 go_wp2_with fail
 refine aP.o.mono ?_
 rintro e w1 ⟨rfl,g1⟩
 have G1:=hid (zA g1 (zJ w1 (.cells #[.string ⟨#[97]⟩,.string ⟨#[98]⟩,.string ⟨#[99]⟩,.string ⟨#[100]⟩] 9) none))
 have ax:Y ((w1.alloc (.cells #[.string ⟨#[97]⟩,.string ⟨#[98]⟩,.string ⟨#[99]⟩,.string ⟨#[100]⟩] 9)).heap[w1.heap.size]?=some (.cells (Sp.A4 fun n=>.string (R.str (Sp.nm n))) 9)):=q4q [(.cells #[.string ⟨#[97]⟩,.string ⟨#[98]⟩,.string ⟨#[99]⟩,.string ⟨#[100]⟩] 9)] w1 0 _ rfl
 clear aP g1
 go_upto_region 3 with fail
 generalize w1.alloc (.cells #[.string ⟨#[97]⟩,.string ⟨#[98]⟩,.string ⟨#[99]⟩,.string ⟨#[100]⟩] 9)=wA at*
 generalize w1.heap.size=gn at*
 have aQ:Y (Sp.L wA wA f (.slice none 0 0) 0):=⟨zM _ _,xS _ _ _ _⟩
 go_wp2_with fail
 go_loopw [7,8,9,10] (fun sv uv wv iv wr=>∃i:Nat,i<=4/\iv = .int .i64 i/\sv = .string (R.str (Sp.txt f i))/\uv = .int .i64 (Sp.tot f i:Nat)/\∃wa wk,wv = .slice wa i wk/\Y (Sp.L wA wr f (.slice wa i wk) i)) (fun _ _ _ iv _=>4 - (intOf iv).toNat)
 case atStart=>exact⟨0,by decide,rfl,rfl,rfl,none,0,rfl,aQ⟩
 case round=>
  obtain⟨i,br,rfl,rfl,rfl,wa,wk,rfl,HL⟩:=hrel
  clear aQ
  by_cases hi:i<4
  ·have bc:(i:Int)<4:=by omega
   go_upto_if 28 with fail
   go_cut [11] (fun kv wz=>kv = .int .i64 (r i:Nat)/\wz=wr)
   case first=>
    by_cases aE:i<zs.length
    ·have bt:(i:Int)<zs.length:=by omega
     obtain⟨b,o,rfl,hc⟩:=aD.o i aE wr (zA G1.o HL.o.gr)
     have HC:=hid (az.o i aE wr)
     generalize zs[i]=z at*
     go_wp2_with fail
     refine HC.o.mono ?_
     rintro e W1 ⟨rfl,a6⟩
     obtain rfl:=a6.symm
     clear HC a6
     go_wp2_with fail
     go_meet
     case rel=>exact⟨rfl,rfl⟩
    ·have bt:¬(i:Int)<zs.length:=by omega
     have h1:=aA.o i aE
     go_wp2_with fail
     go_meet
     case rel=>exact⟨by rw[h1];rfl,rfl⟩
   case rest=>
    obtain⟨rfl,rfl⟩:=hcut
    have ae:=HF.o i
    clear az aD aA
    generalize wc=wr at*
    go_upto_region 12 with fail
    go_cut [39] (fun bv wz=>bv = .bool (decide (i=3/\r i=0))/\wz=wr)
    case first=>
     by_cases h3:i=3
     ·have bo:(i:Int)=3:=by omega
      by_cases h0:r i=0
      ·have ak:((r i:Nat):Int)=0:=by omega
       have hd:=decide_eq_true (p:=i=3/\r i=0) ⟨h3,h0⟩
       clear h3 h0 ae
       go_wp2_with fail
       go_meet
       case rel=>exact⟨by rw[hd],rfl⟩
      ·have ak:¬((r i:Nat):Int)=0:=by omega
       have hd:=decide_eq_false (p:=i=3/\r i=0) (fun c=>h0 c.2)
       have bD:(((r i:Nat):Int) == 0)=false:=beq_eq_false_iff_ne.2 ak
       clear h3 h0 ae
       go_wp2_with fail
       go_meet
       case rel=>exact⟨by rw[hd],rfl⟩
     ·have bo:¬(i:Int)=3:=by omega
      have hd:=decide_eq_false (p:=i=3/\r i=0) (fun c=>h3 c.1)
      clear h3 ae
      go_wp2_with fail
      go_meet
      case rel=>exact⟨by rw[hd],rfl⟩
    case rest=>
    obtain⟨rfl,rfl⟩:=hcut
    generalize wc=wr at*
    have aq:Y (f i=if decide (i=3/\r i=0)=true then 2 else r i):=by show _=_;rw[ae];simp
    clear ae
    generalize decide (i=3/\r i=0)=bb at*
    go_upto_if 39 with fail
    go_cut [11] (fun kv wz=>kv = .int .i64 (f i:Nat)/\wz=wr)
    case first=>
     cases bb
     ·go_wp2_with fail
      go_meet
      case rel=>exact⟨by rw[aq.o];rfl,rfl⟩
     ·go_wp2_with fail
      go_meet
      case rel=>exact⟨by rw[aq.o];rfl,rfl⟩
    case rest=>
     obtain⟨rfl,rfl⟩:=hcut
     clear aq
     generalize wc=wr at*
     have a8:=hf i
     have bA:=aj.o i
     have gX:=zJ wr (.cells #[.int .i64 (f i:Nat)] 3) none
     have aw:=hid (HL.o.keep gX)
     have aT:Y (∀q u,([.int .i64 (f i:Nat)]:List Value)[q]?=some u->(wr.alloc (.cells #[.int .i64 (f i:Nat)] 3)).cell? ((⟨wr.heap.size,0,none⟩:Addr).add q)=some u):=qI wr #[_] _ _ rfl
     have aF:Y (∀u∈([.int .i64 (f i:Nat)]:List Value),u.oneCell'=true):=fun u hu=>by simp at hu;subst hu;rfl
     have aR:Y (i+1<=maxLen):=by show _<=_;unfold maxLen;omega
     have aZ:Y ((i+1)*8<=140737488355328):=by show _<=_;omega
     have a4:Y ((wr.alloc (.cells #[.int .i64 (f i:Nat)] 3)).heap.size=wr.heap.size+1):=by show _=_;simp
     have aH:Y (wA.heap.size<=(wr.alloc (.cells #[.int .i64 (f i:Nat)] 3)).heap.size):=aw.o.gr.size
     have aV:=hid aw.o.row
     have aS:Y (∀g ad w9,w9.ownsRow wA.heap.size 3 1 (.slice (some ⟨g,0,none⟩) (i+1) ad) (i+1) (Sp.row f i++[.int .i64 (f i:Nat)])->(wr.alloc (.cells #[.int .i64 (f i:Nat)] 3)).grownBy w9 (Value.slice wa i wk).ownBlock->Sp.L wA w9 f (.slice (some ⟨g,0,none⟩) (i+1) ad) (i+1)):=fun g ad w9 h1 h2=>HL.o.more h1 h2
     clear HL gX aw
     go_upto_region 14 with fail
     go_wp2_with (at_builtin;refine wpList_append_lies _ rfl (.tmp 40) (.tmp 42) 55 rfl wA.heap.size 3 i0 _ 1 8 Tryz.underlying55 af bw bx bz rfl (by decide) _ _ _ rfl aV.o ⟨wr.heap.size,0,none⟩ 1 1 [.int .i64 (f i:Nat)] rfl rfl aT.o aF.o (by decide) aR.o aZ.o aH.o (wr.heap.size+1) a4.o ?_)
     intro g9 a5 w9 be ba _ _
     have av:=hid (aS.o g9 a5 w9 be ba)
     clear be ba aS aT aF aR aZ a4 aH aV
     have bI:=aC.o i
     have ci:w9.cell? ⟨gn,i,none⟩=some (.string (R.str (Sp.nm i))):=(z8 (zB ax.o av.o.gr (by simp))).trans (at4 _ i hi)
     have z0:(R.str (Sp.txt f i)).size<=200:=by rw[R.str_size];omega
     go_upto_if 48 with fail
     go_cut [7] (fun sv wz=>sv = .string (R.str (Sp.txt f i++Sp.comma i))/\wz=w9)
     case first=>
      by_cases h0:i=0
      ·have ak:¬(0:Int)<i:=by omega
       have e0:Sp.txt f i++Sp.comma i=Sp.txt f i:=by unfold Sp.comma;rw[if_pos h0,xn]
       clear h0
       go_wp2_with fail
       go_meet
       case rel=>exact⟨by rw[e0],rfl⟩
      ·have ak:(0:Int)<i:=by omega
       have e0:R.str (Sp.txt f i)++⟨#[44]⟩=R.str (Sp.txt f i++Sp.comma i):=by unfold Sp.comma;rw[if_neg h0];exact q3q _ [44]
       clear h0
       go_wp2_with fail
       go_meet
       case rel=>exact⟨rfl,rfl⟩
     case rest=>
      obtain⟨rfl,rfl⟩:=hcut
      generalize wc=w9 at*
      have bm:Y (∀W,Calls Tryz.prog 25 #[.int .i64 (f i:Nat)] W fun e w'=>e = .returned (.string (R.str (R.dec (f i))))/\w'=W):=fun W=>ay.o (f i) W a8
      have bB:(R.str (R.dec (f i))).size<=1:=by rw[R.str_size,q41q _ a8];exact zZ 1
      have bq:(Sp.comma i).length<=1:=by unfold Sp.comma;split <;> decide
      have aY:Y (R.str (Sp.txt f i++Sp.comma i)++⟨#[34]⟩++R.str (Sp.nm i)++⟨#[34]⟩++R.str (R.dec (f i))=R.str (Sp.txt f (i+1))):=zu0 rfl
      obtain⟨za,zb,zc,zd⟩:=zuC (n:=i) (t:=Sp.txt f i++Sp.comma i) (by rw[zW];omega)
      have bG:=q82q i
      have bu:Sp.tot f (i+1)=Sp.tot f i+f i:=rfl
      clear ay aj z0
      generalize Sp.txt f i++Sp.comma i=tx at*
      go_upto_region 18 with fail
      go_wp2_with fail
      go_quiet ((go_at_call 25;exact Calls.quiet_of_same (bm.o _)))
      have bl:=hid (av.o.keep (vu w9 nq))
      rw[aY.o]
      clear av aY za zb zc zd ci
      go_wp2_with fail
      go_roundw
      case rel=>exact⟨i+1,by omega,by go_num,rfl,by rw[bu];go_num,some ⟨g9,0,none⟩,a5,rfl,bl⟩
      case measure=>simp[intOf];omega
  ·obtain rfl:i=4:=by omega
   clear hi br aD az ay aA HF hr
   rw[show((4:Nat):Int)=4 from rfl]
   have z0:(R.str (Sp.txt f 4)).size<=200:=by rw[R.str_size];have:=aj.o 4;omega
   have ar:=hid (zA G1.o HL.o.gr)
   have HC:=hid (a0.o wr ar.o)
   have aW:=hid HL.o.row
   have bn:=J (zB ax.o HL.o.gr (by simp))
   have bk:=hid (G.grown ar.o)
   clear a0 aj aC HL ax G1 HG
   generalize wr=w0 at*
   go_wp2_with fail
   refine HC.o.mono ?_
   rintro e w2 ⟨yb,tv,cb,rfl,k2,t2⟩
   have K2:=hid k2
   have T2:=hid t2
   have e0:Yd.new.opened=Sp.y (Sp.d fr (Sp.tot f 4)) 0:=rfl
   rw[e0] at K2
   clear HC k2 t2 z0 e0
   generalize Sp.tot f 4=n at*
   have bE:(0:Int)<n:=by omega
   have bF:((n:Nat):Int)<=32:=by omega
   go_wp2_with fail
   go_loopw [13] (fun iv wr=>∃i:Nat,i<=n/\iv = .int .i64 i/\Y (KY w0 wr yb tv [some cb] (Sp.y (Sp.d fr n) i))/\Y (TabAt wr tv (Sp.hs tg))) (fun iv _=>n - (intOf iv).toNat)
   case atStart=>exact⟨0,zl _,rfl,K2,T2⟩
   case round=>
    obtain⟨i,af,rfl,KI,TI⟩:=hrel
    clear K2 T2
    by_cases hi:i<n
    ·have bc:(i:Int)<n:=by omega
     have HC:=hid (zsB KI.o TI.o (by omega))
     have aG:=hid (ztV (n:=n) (i:=i) a9 (by omega))
     rw[HD.o i (by omega)] at HC
     clear KI TI
     go_upto_region 25 with fail
     go_wp2_with fail
     rw[aG.o]
     refine HC.o.mono ?_
     rintro e w3 ⟨rfl,k3,t3⟩
     have K3:=hid k3
     have T3:=hid t3
     clear HC k3 t3 aG
     go_wp2_with fail
     go_roundw
     case rel=>exact⟨i+1,by omega,by go_num,K3,T3⟩
     case measure=>simp[intOf];omega
    ·obtain rfl:n=i:=by omega
     clear hi af HD bh bp
     generalize wr=wr' at*
     rw[zu8 tg] at KI
     have aI:Y (∀k,k<4->Sp.c tg (Sp.d fr n) n k=f k):=aL.o
     clear aL
     generalize Sp.d fr n=d at*
     obtain⟨gw,bJ,e1,_,_⟩:=World.ownsRow.form aW.o (by decide)
     simp only[qc,true_and] at e1
     obtain⟨rfl,rfl⟩:=e1
     have aM:=hid (Sp.I.start KI.o)
     have aB:Y (∀wr gz ps c i,Sp.I w0 wr' wr yb gz tv [some cb] ps (Sp.z tg d n i) c->i<n->Calls Tryz.prog 23 #[.pointer (some ⟨yb,0,none⟩),.string ⟨#[71,69,84,32,47,111,110,101,32,72,84,84,80,47,49,46,49,13,10,104,111,115,116,58,32,104,13,10,13,10,71,69,84,32,47,32,72,84,84,80,47,49,46,49,13,10,104,111,115,116,58,32,104,13,10,13,10]⟩] wr fun e w'=>∃gl k cs,e = .returned (.slice (some ⟨gl,0,none⟩) 2 k)/\(∃ps',Y (Sp.I w0 wr' w' yb gz tv [some cb] ps' (Sp.z tg d n (i+1)) c))/\Y (w'.heap[gl]?=some (.cells cs 44))/\Y (cs[1]?=some (.string ⟨#[111,110,101]⟩))/\Y (cs[4]?=some (.string (R.str (Tr.target (d i) tg))))):=fun wr gz ps c i h hi=>zsF bk.o HV.o KI.o TI.o h hi (by omega)
     clear KI TI HV
     go_wp2_with fail
     generalize wr'.alloc (.cells #[.int .i64 0,.int .i64 0,.int .i64 0,.int .i64 0] 3)=w3 at*
     generalize wr'.heap.size=gz at*
     go_loopw [15] (fun iv wr=>∃i:Nat,i<=n/\iv = .int .i64 i/\∃ps,Y (Sp.I w0 wr' wr yb gz tv [some cb] ps (Sp.z tg d n i) (Sp.c tg d i))) (fun iv _=>n - (intOf iv).toNat)
     case atStart=>exact⟨0,zl _,rfl,[some cb],aM⟩
     case round=>
      obtain⟨i,af,rfl,ps,HI⟩:=hrel
      clear aM
      by_cases hi:i<n
      ·have bc:(i:Int)<n:=by omega
       have HC:=hid (aB.o wr gz ps _ i HI.o hi)
       clear aB HI
       go_wp2_with fail
       refine HC.o.mono ?_
       rintro e w4 ⟨gl,lk,cs,rfl,⟨bg,aO⟩,an,aJ,aK⟩
       have c1:w4.cell? ⟨gl,1,none⟩=some (.string ⟨#[111,110,101]⟩):=(z8 an.o).trans aJ.o
       clear HC aJ
       have aX:Y (Sp.I w0 wr' w4 yb gz tv [some cb] bg (Sp.z tg d n (i+1)) (Sp.mid (Sp.c tg d i) (Sp.c tg d (i+1)) 0)):=aO.o.congr (fun x _=>(if_neg (Nat.not_lt_zero x)).symm)
       clear aO
       go_wp2_with fail
       clear c1
       go_loopw [17] (fun kv wr=>∃k:Nat,k<=4/\kv = .int .i64 k/\∃ps,Y (Sp.I w0 wr' wr yb gz tv [some cb] ps (Sp.z tg d n (i+1)) (Sp.mid (Sp.c tg d i) (Sp.c tg d (i+1)) k))/\Y (wr.heap[gl]?=some (.cells cs 44))) (fun kv _=>4 - (intOf kv).toNat)
       case atStart=>exact⟨0,zl _,rfl,bg,aX,an⟩
       case round=>
        obtain⟨k,bd,rfl,am,aa,ah⟩:=hrel
        clear aX an
        by_cases hk:k<4
        ·have bs:(k:Int)<4:=by omega
         have c4:wr.cell? ⟨gl,4,none⟩=some (.string (R.str (Tr.target (d i) tg))):=(z8 ah.o).trans aK.o
         have cn:wr.cell? ⟨gn,k,none⟩=some (.string (R.str (Sp.nm k))):=(z8 (zB bn.o aa.o.ky.gr (by simp))).trans (at4 _ k hk)
         have hq:=wl (Tr.target (d i) tg) (Sp.nm k)
         have ai:=hid (ztC tg d i k)
         have bq:=c_le tg d i k
         generalize decide (Tr.target (d i) tg=Sp.nm k)=bb at*
         go_upto_region 36 with fail
         go_quiet (fail)
         have ab:=hid (aa.o.keep (vu wr nq))
         have ap:=J (zB ah.o (vu wr nq) (by simp))
         clear c4 cn aa ah hq
         generalize wr.drewN nq=w5 at*
         cases bb
         ·have au:=hid (ab.o.congr (c':=Sp.mid (Sp.c tg d i) (Sp.c tg d (i+1)) (k+1)) (fun x _=>by
           unfold Sp.mid
           by_cases h1:x<k
           ·rw[if_pos h1,if_pos (by omega)]
           ·rw[if_neg h1]
            by_cases h2:x=k
            ·rw[if_pos (by omega),h2,ai.o];rfl
            ·rw[if_neg (by omega)]))
          clear ab ai
          go_wp2_with fail
          go_roundw
          case rel=>exact⟨k+1,by omega,by go_num,am,au,ap⟩
          case measure=>simp[intOf];omega
         ·have cz:w5.cell? ⟨gz,k,none⟩=some (.int .i64 (Sp.c tg d i k:Nat)):=by
           refine((z8 ab.o.blk).trans (at4 _ k hk)).trans ?_
           unfold Sp.mid
           rw[if_neg (Nat.lt_irrefl k)]
          have fz:w5.frozen? ⟨gz,k,none⟩=false:=zC ab.o.blk
          have au:Y (Sp.I w0 wr' (w5.setCell ⟨gz,k,none⟩ (.int .i64 ((Sp.c tg d i k:Nat)+1))) yb gz tv [some cb] am (Sp.z tg d n (i+1)) (Sp.mid (Sp.c tg d i) (Sp.c tg d (i+1)) (k+1))):=(ab.o.set k (Sp.c tg d i k+1) hk).congr (fun x _=>by
           show(if x=k then _ else _)=_
           by_cases h2:x=k
           ·rw[if_pos h2]
            unfold Sp.mid
            rw[if_pos (by omega),h2,ai.o];rfl
           ·rw[if_neg h2]
            unfold Sp.mid
            by_cases h1:x<k
            ·rw[if_pos h1,if_pos (by omega)]
            ·rw[if_neg h1,if_neg (by omega)])
          have bi:=hid (ab.o.ev ap.o k (.int .i64 ((Sp.c tg d i k:Nat)+1)))
          clear ab ai ap
          go_wp2_with fail
          go_roundw
          case rel=>exact⟨k+1,by omega,by go_num,am,au,bi⟩
          case measure=>simp[intOf];omega
        ·obtain rfl:k=4:=by omega
         rw[show((4:Nat):Int)=4 from rfl]
         have ab:=hid (aa.o.congr (c':=Sp.c tg d (i+1)) (fun x hx=>if_pos hx))
         clear aa ah hk bd aK
         go_wp2_with fail
         go_roundw
         case rel=>exact⟨i+1,by omega,by go_num,am,ab⟩
         case measure=>simp[intOf];omega
      ·obtain rfl:n=i:=by omega
       clear hi af aB
       have aN:=hid (HI.o.congr (c':=f) (fun x hx=>aI.o x hx))
       clear HI aI
       go_wp2_with fail
       go_loopw [18] (fun kv wr=>∃k:Nat,k<=4/\kv = .int .i64 k/\Y (Sp.I w0 wr' wr yb gz tv [some cb] ps (Sp.z tg d n n) f)) (fun kv _=>4 - (intOf kv).toNat)
       case atStart=>exact⟨0,zl _,rfl,aN⟩
       case round=>
        obtain⟨k,bd,rfl,aa⟩:=hrel
        clear aN
        by_cases hk:k<4
        ·have bs:(k:Int)<4:=by omega
         have cz:wr.cell? ⟨gz,k,none⟩=some (.int .i64 (f k:Nat)):=(z8 aa.o.blk).trans (at4 _ k hk)
         have cw:wr.cell? ⟨gw,k,none⟩=some (.int .i64 (f k:Nat)):=by
          have h1:=zO aW.o aa.o.ky.gr (fun k hk c=>by cases c)
          have h2:=xd h1 k (by omega)
          exact h2.trans (ztT f 4 k hk)
         go_upto_region 41 with fail
         go_quiet (fail)
         have ab:=hid (aa.o.keep (vu wr nq))
         clear aa cz cw
         generalize wr.drewN nq=w5 at*
         go_wp2_with fail
         go_roundw
         case rel=>exact⟨k+1,by omega,by go_num,ab⟩
         case measure=>simp[intOf];omega
        ·have bj:=hid (zA ar.o aa.o.ky.gr)
         obtain rfl:k=4:=by omega
         rw[show((4:Nat):Int)=4 from rfl]
         clear aa
         go_wp2
         go_ret
         exact⟨rfl,bj.o⟩
end Go.Proofs.YtfocdefchbnkpaaGreatDoor
