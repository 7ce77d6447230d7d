import Derived.Test.YtfocdefchbnkpaaGreatDoorYdN
set_option maxRecDepth 100000
set_option maxHeartbeats 20000000
open And renaming intro->Vv
open Go renaming World->Ag,Value->Aj,Addr->Eu,Calls->Am,heap_alloc_new->Bn
open Go.Ending renaming returned->Af
open Go.IntKind renaming i64->Ai,u64->Nr,u8->Bp
open Go.Lib renaming byteCells->Ba,run_convert_bytes_const->Qg
open Go.Obj renaming cells->Ae
open Go.Value renaming pointer->Al,int->O,string->I,slice->X,bool->Av
open Go.Value.slice renaming injEq->Au
open Go.World renaming grownBy_alloc->Ac,ownsRow_nil->Bk
open Go.World.ownsRow renaming form->Bm,cellAt->Ap
open List renaming length->Z
open Option renaming some->V,none->S
open Or renaming inr->Bf
open _root_ renaming List->A,Nat->Ad,UInt8->Ab,Int->Ak,ByteArray->As,Option->Br
namespace Go.Proofs.YtfocdefchbnkpaaGreatDoor
open Go.RowKit Tryz
theorem bf:∀(b:A L.Y) (i:Ad) (p:L.Y) (j:Ad),b[i]?=V p->j<2->(b.flatMap L.Y.cells)[i*2+j]?=p.cells[j]?
 |[],i,p,j,h,_=>by cases h
 |a::t,0,p,j,h,hj=>by
  cases h
  show(a.cells++t.flatMap L.Y.cells)[0*2+j]?=_;rw[Cx (by show _<2;omega)];congr 1;omega
 |a::t,i+1,p,j,h,hj=>by
  show(a.cells++t.flatMap L.Y.cells)[(i+1)*2+j]?=_;rw[Cl (by show 2<=_;omega),show(i+1)*2+j-Z a.cells=i*2+j by show _-2=_;omega];exact bf t i p j h hj
theorem zhY {y:Yd}(h:YOk y)(d:Z y.conns<=64):YOk y.op.1/\(Z y.op.1.conns)<=64/\y.op.1.sent=y.sent:=by
 unfold Yd.op
 split
 ·exact⟨h,d,rfl⟩
 ·refine⟨fun m c a=>?_,?_,rfl⟩
  ·have a:(y.conns++[V (Cn.hd xf)])[m]?=V (V c):=a
   by_cases b:m<Z y.conns
   ·rw[Cx b] at a;exact h m c a
   ·rw[Cl (by omega)] at a
    have e:V c=V (Cn.hd xf):=by simpa using Xt a
    cases e;exact HOk.zero
  ·show(Z (y.conns++[V (Cn.hd xf)]))<=64
   rw[Ah];simp;omega
theorem ziY {y:Yd}(h:YOk y)(m:Ad)(c:Ab):YOk (y.step0 m c)/\(Z (y.step0 m c).conns)=Z y.conns/\(Z (y.step0 m c).sent)<=Z y.sent+1:=by
 unfold Yd.step0
 split
 ·rename_i ho
  obtain⟨b,a⟩:=dS ho;refine⟨h.take0 m c,?_,bG y m c⟩;rw[bF y m b c a];show(Z (y.conns.set m _))=_;rw[Gv]
 ·exact⟨h,rfl,Fv _ _⟩
theorem zjZ {y:Yd}(h:YOk y)(m:Ad)(l:A Ab):YOk (y.fed0 m l)/\(Z (y.fed0 m l).conns)=Z y.conns/\(Z (y.fed0 m l).sent)<=Z y.sent+Z l:=by
 induction l generalizing y with
 |nil=>exact⟨h,rfl,Aq _⟩
 |cons c l ih=>
  obtain⟨a,b,i⟩:=ziY h m c;obtain⟨d,f,g⟩:=ih a;exact⟨d,f.trans b,by show _<=_+(Z l+1);exact Bi g (by omega)⟩
theorem zh9 {y:Yd}(h:YOk y)(d:Z y.conns<=64)(c:Ak)(l:A Ab):YOk (y.fd c l).1/\(Z (y.fd c l).1.conns)<=64/\(Z (y.fd c l).1.sent)<=Z y.sent+Z l:=by
 unfold Yd.fd
 split
 ·obtain⟨a,f,b⟩:=zjZ h (c-1).toNat l
  exact⟨a,by show(Z (y.fed0 _ l).conns)<=64;omega,b⟩
 ·exact⟨h,d,Fv _ _⟩
theorem zh3 {y:Yd}(h:YOk y)(b:Z y.conns<=64)(c:Ak):YOk (y.cl c).1/\(Z (y.cl c).1.conns)<=64/\(y.cl c).1.sent=y.sent:=by
 unfold Yd.cl
 split
 ·refine⟨fun m c0 a=>?_,by show(Z (y.conns.set _ S))<=64;rw[Gv];exact b,rfl⟩
  have a:(y.conns.set (c-1).toNat S)[m]?=V (V c0):=a;rw[Xc] at a
  split at a
  ·split at a <;> cases a
  ·exact h m c0 a
 ·exact⟨h,b,rfl⟩
variable {w w' w0 wr:Ag}{B N b ne nv h i:Ad}
theorem L.St.wide {c N':Ad}{d:A L.Y}(h:L.St w w' c B N ne nv b d)(n:N<=N'):L.St w w' c B N' ne nv b d:=by
 obtain⟨o,f,g,a,i,j,k,l,m⟩:=h.ex;exact⟨⟨o,f,g,a,i,j,k,l.keep (zP _ S) n,m⟩,h.turn⟩
abbrev Hz0 (a b c d e f g h):=Ae #[O Ai b,O Ai c,O Ai d,O Nr e,I f,X g a h] 80
abbrev Hz1:=Ae #[Al S,Al S] 85
abbrev Hz2 (a):=Al (V ⟨a,0,S⟩)
abbrev Hz3 (a b):=Ae #[Al (V ⟨a,0,S⟩),Al (V ⟨b,0,S⟩)] 85
theorem zeI {wb:Ad}{vl:Aj}{es ev:A (Aj×Ad×Ad)}{b:A L.Y}(h:L.W w wb B N vl es ev b)(k e c n:Ak)(aA:k≠1)(aB:k≠2)(aC:k≠3)(aD:k≠4)(aK:k<=8)(he:-9223372036854775808<=e/\e<9223372036854775808){s:As}{sa:Br Eu}{sc:Ad}{l:A Ab}(ha:L.Arg w s sa sc l)(aj:l≠[]->∀g o,sa=V ⟨g,o,S⟩->∀(i:Ad) (p:L.Y),b[i]?=V p->¬p.F g)(aE:Z l<=2000000)(hB:B<=w.heap.size)(aM:Z b<=100000000)(az:Z ev<=100000000)(hN:N<=10000000)(hG:Glob w)(hE:GE w)(ay:0<B/\Tryz.laysC172_ren.g 15<B):Am prog 38 #[Al (V ⟨wb,0,S⟩),.agg #[O Ai k,O Ai e,O Ai c,O Nr n,I s,X sa (Z l) sc]] w fun e w'=>e=Af (Av true)/\L.St w w' wb B (N+Z l) (Z es) (Z ev+4) (Z b) b:=by
 have gA:=hid (Ac w (Hz0 (Z l) k e c n s sa sc) S);have x:Y ((w.alloc (Hz0 (Z l) k e c n s sa sc)).heap[w.heap.size]?=V (Hz0 (Z l) k e c n s sa sc)):=Bn _ _;have HW:=hid (h.keep gA.o (Aq _));have c0:=cbi 0 x.o;have c1:=cbi 1 x.o;have b1:(k == 1)=false:=by rw[Ch];exact aA
 have b2:(k == 2)=false:=by rw[Ch];exact aB
 have b3:(k == 3)=false:=by rw[Ch];exact aC
 have b4:(k == 4)=false:=by rw[Ch];exact aD
 have aw:=hid (h.still (N':=N+Z l) (ne:=Z es) (nv:=Z ev+4) gA.o (Fv _ _) (Aq _) (Fv _ _));obtain⟨la,lk,rfl⟩:=zL h.l;have k0:(w.alloc (Hz0 (Z l) k e c n s sa sc)).cell? ⟨wb,0,S⟩=V (X la (Z b) lk):=by
  obtain⟨_,_,_,_,q,_⟩:=HW.o.r.ex;exact zB q
 have v:=hid ha;have av:=hid aj;have HG:=hid (hG.grown gA.o);have HE:=hid (hE.grown gA.o);go_in;go_upto_region 1 with fail;generalize w.alloc (Hz0 (Z l) k e c n s sa sc)=wa at*
 by_cases aF:Z b=0
 ·rw[aF] at k0
  go_wp2;go_ret;exact⟨rfl,aw.o⟩
 ·have aL:((Z b:Ak) == 0)=false:=by rw[Ch];omega
  obtain⟨gl,gk,e1,_,_⟩:=Bm HW.o.l (by omega);simp only[Au,Fb] at e1;obtain⟨rfl,rfl⟩:=e1;have ah:=hid (fun W=>lB e (Z b) W he.1 he.2 (by omega) (by omega));have af:Y (∀j,j<Z b->∃p,b[j]?=V p/\wa.cell? ⟨gl,j*2,S⟩=V (Hz2 p.xb)/\wa.cell? ⟨gl,j*2+1,S⟩=V (Hz2 p.yb)):=fun j hj=>⟨b[j],Bd hj,(Ap HW.o.l _ (by omega)).trans (bf b j _ 0 (Bd hj) (by omega)),(Ap HW.o.l _ (by omega)).trans (bf b j _ 1 (Bd hj) (by omega))⟩
  have gZ:=hid (Ac wa Hz1 S);have aG:=gZ.o.cell k0 (by simp);have ax:=gZ.o.cell c1 (by simp);have ad:Y ((wa.alloc Hz1).heap[wa.heap.size]?=V Hz1):=Bn _ _;have z0:=cbi 0 ad.o;have y0:=zm9 0 ad.o;go_upto_region 14 with fail
  go_cut [6] (fun gv wz=>∃(gp j:Ad) (p:L.Y),gv=Al (V ⟨gp,0,S⟩)/\Y (b[j]?=V p)/\Y (wz.heap[gp]?=V (Hz3 p.xb p.yb))/\Y (wa.grownBy wz S))
  ·
   go_region_law (go_simp;go_at_call 60;refine(ah.o _).mono ?_;rintro e w' ⟨⟨j,hj,rfl⟩,rfl⟩;obtain⟨p,hp,p0,p1⟩:=af.o j hj;have HP:=hid hp;have aN:(wa.alloc Hz1).cell? ⟨gl,j*2,S⟩=V (Hz2 p.xb):=gZ.o.cell p0 (by simp);have aO:(wa.alloc Hz1).cell? ⟨gl,j*2+1,S⟩=V (Hz2 p.yb):=gZ.o.cell p1 (by simp);have aJ:(j:Ak)<Z b:=by omega)
   all_goals
    go_wp2_with fail
    go_meet
    ·exact⟨wa.heap.size,j,p,rfl,HP,zE (Bn wa (Hz3 p.xb p.yb)) (zV _) (by simp),zD (Ac _ _ S) (zV _)⟩
  ·
   obtain⟨gp,j,p,rfl,HP,C,GZ⟩:=hcut;generalize wc=wz at*;have d:=hid (HW.o.keep GZ.o (Aq _));have GT:=hid (zD gA.o GZ.o);have z:=hid (zE x.o GZ.o (by simp));have t0:=cbi 0 z.o;have t2:=cbi 2 z.o;have t5:=cbi 5 z.o;have u0:=cbi 0 C.o;have u1:=cbi 1 C.o;obtain⟨ap,aq,ar,au⟩:=d.o.yd j p HP.o;have a:=hid (Vv ap (Vv aq (Vv ar au)));have aa:=Bi hB GT.o.size;have HN:Y (∀n W,Am prog 36 #[O Ai n] W fun e w'=>e=Af (O Ai n)/\w'=W):=fun n W=>tD n W
   have ae:Y (¬p.F gp/\¬p.F w.heap.size):=⟨fun q=>vK (d.o.yd j p HP.o).tys C.o (by decide) q,fun q=>vK (d.o.yd j p HP.o).tys z.o (by decide) q⟩
   by_cases ak:k=5
   ·subst ak
    have HO:=hid (zkS a.o.1 aa a.o.2.2.1);go_wp2_with fail;refine HO.o.mono ?_;rintro e w1 ⟨rfl,F1,Q,f⟩;have ab:=hid f;have E:=hid (zkU Q (Bi aa f.turn.size) a.o.2.2.1);have u1:=cbi 1 (f.turn.keep C.o ae.o.1);generalize H:p.y.op=op at*;have u:=hid H;go_wp2_with fail;refine E.o.mono ?_;rintro e w2 ⟨rfl,F2,t,m⟩;have HX:Y (L.St w w2 wb B (N+Z l) (Z es) (Z ev+4) (Z b) b):=(d.o.moved (y':=op.1) HP.o ⟨t,by rw[<-u.o];exact(zhY a.o.2.1 a.o.2.2.1).1,by rw[<-u.o];exact(zhY a.o.2.1 a.o.2.2.1).2.1,by rw[<-u.o];show(Z (p.y.op.1).sent)<=_;rw[(zhY a.o.2.1 a.o.2.2.1).2.2];exact Bi a.o.2.2.2 (Fv _ _)⟩ (ab.o.trans m) (Fv _ _) (Aq _) (Fv _ _)).after GT.o;go_wp2_with (go_at_call 36;refine(HN.o _ _).mono ?_;rintro e w' ⟨rfl,rfl⟩);go_ret;exact⟨rfl,HX.o⟩
   ·have b5:(k == 5)=false:=by rw[Ch];exact ak
    by_cases al:k=6
    ·subst al
     have HA:=hid (v.o.keep GT.o);have ag:=hid (zeH a.o.1 a.o.2.1 a.o.2.2.1 (Bi a.o.2.2.2 hN) c HA.o.rd (fun h0 g o e=>av.o h0 g o e j p HP.o) v.o.nil aE aa (HG.o.grown GZ.o) (HE.o.grown GZ.o) ay);go_wp2_with fail;refine ag.o.mono ?_;rintro e w2 ⟨rfl,F2,t,m⟩;have HX:Y (L.St w w2 wb B (N+Z l) (Z es) (Z ev+4) (Z b) b):=(d.o.moved (y':=(p.y.fd c l).1) HP.o ⟨t,(zh9 a.o.2.1 a.o.2.2.1 c l).1,(zh9 a.o.2.1 a.o.2.2.1 c l).2.1,Bi (zh9 a.o.2.1 a.o.2.2.1 c l).2.2 (Nat.add_le_add_right a.o.2.2.2 _)⟩ m (Fv _ _) (Aq _) (Fv _ _)).after GT.o;go_wp2;go_ret;exact⟨rfl,HX.o⟩
    ·have b6:(k == 6)=false:=by rw[Ch];exact al
     by_cases am:k=7
     ·subst am
      have HO:=hid (ziF a.o.1 a.o.2.2.1 c);go_wp2_with fail;refine HO.o.mono ?_;rintro e w1 ⟨rfl,F1,Q,f⟩;have ab:=hid f;have E:=hid (ziG Q a.o.2.2.1 c);have u1:=cbi 1 (f.turn.keep C.o ae.o.1);have t2:=cbi 2 (f.turn.keep z.o ae.o.2);generalize H:p.y.cl c=op at*;have u:=hid H;go_wp2_with fail;refine E.o.mono ?_;rintro e w2 ⟨rfl,F2,t,m⟩;have HX:Y (L.St w w2 wb B (N+Z l) (Z es) (Z ev+4) (Z b) b):=(d.o.moved (y':=op.1) HP.o ⟨t,by rw[<-u.o];exact(zh3 a.o.2.1 a.o.2.2.1 c).1,by rw[<-u.o];exact(zh3 a.o.2.1 a.o.2.2.1 c).2.1,by rw[<-u.o];show(Z ((p.y.cl c).1).sent)<=_;rw[(zh3 a.o.2.1 a.o.2.2.1 c).2.2];exact Bi a.o.2.2.2 (Fv _ _)⟩ (ab.o.trans m) (Fv _ _) (Aq _) (Fv _ _)).after GT.o;go_wp2_with (go_at_call 36;refine(HN.o _ _).mono ?_;rintro e w' ⟨rfl,rfl⟩);go_ret;exact⟨rfl,HX.o⟩
     ·have b7:(k == 7)=false:=by rw[Ch];exact am
      by_cases an:k=8
      ·subst an
       have ai:=hid (lC d.o HP.o aa az (by omega));go_wp2_with fail;refine ai.o.mono ?_;rintro e w2 ⟨rfl,ao⟩;have HX:Y (L.St w w2 wb B (N+Z l) (Z es) (Z ev+4) (Z b) b):=(ao.wide (Fv _ _)).after GT.o;go_wp2;go_ret;exact⟨rfl,HX.o⟩
      ·have b8:(k == 8)=false:=by rw[Ch];exact an
       have b9:(k == 9)=false:=by rw[Ch];omega
       have aH:(k == 10)=false:=by rw[Ch];omega
       have aI:(k == 11)=false:=by rw[Ch];omega
       have HX:Y (L.St w wz wb B (N+Z l) (Z es) (Z ev+4) (Z b) b):=(d.o.still (zP _ S) (Fv _ _) (Aq _) (Fv _ _)).after GT.o;go_wp2;go_ret;exact⟨rfl,HX.o⟩
def L.ny (k:Ak)(n:Ad):Ad:=if k=4 then n+1 else n
theorem L.St.widen {d c N' a:Ad}{f:A L.Y}(h:L.St w w' d B N ne nv c f)(g:N<=N')(q:ne<=a)(r:nv<=b):L.St w w' d B N' a b c f:=by
 obtain⟨s,j,k,i,l,m,n,o,p⟩:=(h.wide g).ex
 grind[Nat.le_trans,L.Y,L.St]
theorem zbB {j:Ad}{C:Aj}{o q:A (Aj×Ad×Ad)}{m:A L.Y}(h:L.W w j B N C o q m)(k e c n:Ak)(z:k=1\/k=2\/k=3){s:As}{f:Br Eu}{g:Ad}{l:A Ab}(v:L.Arg w s f g l)(y:B<=w.heap.size)(r:Z o<=100000000)(t:Glob w)(u:GT w):Am prog 38 #[Al (V ⟨j,0,S⟩),.agg #[O Ai k,O Ai e,O Ai c,O Nr n,I s,X f (Z l) g]] w fun e w'=>e=Af (Av true)/\L.St w w' j B N (Z o+4) (Z q) (Z m) m:=by
 have i:w.grownBy (w.alloc (Hz0 (Z l) k e c n s f g)) S:=Ac _ _ S;have a:Y ((w.alloc (Hz0 (Z l) k e c n s f g)).heap[w.heap.size]?=V (Hz0 (Z l) k e c n s f g)):=Bn _ _;have p:Y (Am prog 59 #[Al (V ⟨j,0,S⟩),.agg #[O Ai k,O Ai e,O Ai c,O Nr n,I s,X f (Z l) g]] (w.alloc (Hz0 (Z l) k e c n s f g)) fun e w'=>e=Af (Av true)/\L.St w w' j B N (Z o+4) (Z q) (Z m) m):=(zeJ (h.keep i (Aq _)) k e c n (v.keep i) (Bi y i.size) r (Aq _) (Aq _) (t.grown i) (u.grown i)).mono fun e w' ⟨q1,q2⟩=>⟨q1,q2.after i⟩
 have E:=cbi 0 a.o;have F:=cbi 1 a.o;have H:=cbi 2 a.o;have Q:=cbi 3 a.o;have c4:=cbi 4 a.o;have c5:=cbi 5 a.o;go_in;go_upto_region 2 with fail;generalize w.alloc (Hz0 (Z l) k e c n s f g)=wa at*;rcases z with rfl|rfl|rfl
 ·go_wp2_with (go_at_call 59;refine p.o.mono ?_;rintro e x ⟨rfl,d⟩;have b:=hid d;clear d)
  go_ret;exact⟨rfl,b.o⟩
 ·go_wp2_with (go_at_call 59;refine p.o.mono ?_;rintro e x ⟨rfl,d⟩;have b:=hid d;clear d)
  go_ret;exact⟨rfl,b.o⟩
 ·go_wp2_with (go_at_call 59;refine p.o.mono ?_;rintro e x ⟨rfl,d⟩;have b:=hid d;clear d)
  go_ret;exact⟨rfl,b.o⟩
theorem rn {E:Ad}{vl:Aj}{f j:A (Aj×Ad×Ad)}{b:A L.Y}(h:L.W w E B N vl f j b)(k e c n:Ak)(y:k<=8)(he:-9223372036854775808<=e/\e<9223372036854775808){s:As}{C:Br Eu}{sc:Ad}{l:A Ab}(Q:L.Arg w s C sc l)(u:l≠[]->∀g o,C=V ⟨g,o,S⟩->∀(i:Ad) (p:L.Y),b[i]?=V p->¬p.F g)(z:Z l<=2000000)(r:B<=w.heap.size)(a:Z b<=100000000)(v:Z f<=100000000)(x:Z j<=100000000)(hN:N<=10000000)(H:Glob w)(hT:GT w)(hE:GE w)(t:0<B/\Tryz.laysC172_ren.g 15<B):Am prog 38 #[Al (V ⟨E,0,S⟩),.agg #[O Ai k,O Ai e,O Ai c,O Nr n,I s,X C (Z l) sc]] w fun e w'=>e=Af (Av true)/\L.St w w' E B (N+Z l) (Z f+4) (Z j+4) (L.ny k (Z b)) b:=by
 unfold L.ny
 by_cases m:k=4
 ·subst m
  rw[Az rfl];exact(zhM h e c n r a).mono fun e w' ⟨q1,q2⟩=>⟨q1,q2.widen (Fv _ _) (Fv _ _) (Fv _ _)⟩
 ·rw[Aw m]
  by_cases d:k=1\/k=2\/k=3
  ·exact(zbB h k e c n d Q r v H hT).mono fun e w' ⟨q1,q2⟩=>⟨q1,q2.widen (Fv _ _) (Aq _) (Fv _ _)⟩
  ·exact(zeI h k e c n (fun q=>d (Or.inl q)) (fun q=>d (Bf (Or.inl q))) (fun q=>d (Bf (Bf q))) m y he Q u z r a x hN H hE t).mono fun e w' ⟨q1,q2⟩=>⟨q1,q2.widen (Aq _) (Fv _ _) (Aq _)⟩
theorem L.St.grown {c:Ad}{d:A L.Y}(h:L.St w w' c B N ne nv b d)(g:w0.grownBy w S)(a:w0.heap.size<=B):w0.grownBy w' S:=h.turn.grown g (fun _ hk=>Bi a hk.1)
def Bg.get:A Ab:=[71,69,84,32,47,120,121,63,113,32,72,84,84,80,47,49,46,49,13,10,72,111,115,116,58,32,97,46,66,58,56,48,13,10,13,10]
def Bg.k (i:Ad):Ak:=[4,5,6,8,10,11,6,8].getD i 0
def Bg.c (i:Ad):Ak:=[0,0,1,0,0,0,1,0].getD i 0
def Bg.n (i:Ad):Ad:=[0,0,0,0,0,4,0,0].getD i 0
def Bg.first:As:=⟨#[104,111,115,116,32,34,65,46,98,34,123,114,117,108,101,32,55,123,112,97,116,104,34,47,120,34,59,116,111,34,117,34,49,44,34,118,34,50,59,114,101,112,108,97,99,101,34,47,34,59,125,114,117,108,101,32,57,123,112,97,116,104,34,47,34,59,116,111,34,117,34,49,44,34,118,34,48,59,125,125]⟩
def Bg.s (i:Ad):As:=if i=4 then Bg.first else ⟨#[]⟩
def Bg.l (i:Ad):A Ab:=if i=2\/i=6 then Bg.get else []
def Bg.a (h:Ad)(i:Ad):Br Eu:=if i=2 then V ⟨h,0,S⟩ else if i=6 then V ⟨h+1,0,S⟩ else S
def Bg.y (i:Ad):Ad:=if i=0 then 0 else 1
def zgK (h i:Ad):A Aj:=[O Ai (Bg.k i),O Ai 0,O Ai (Bg.c i),O Nr (Bg.n i),I (Bg.s i),X (Bg.a h i) (Z (Bg.l i)) (Z (Bg.l i))]
def zgJ (h:Ad):A Aj:=(List.range 8).flatMap (zgK h)
theorem zm4 (h i j:Ad)(c:i<8)(d:j<6):(zgJ h)[i*6+j]?=(zgK h i)[j]?:=by
 have a:i=0\/i=1\/i=2\/i=3\/i=4\/i=5\/i=6\/i=7:=by omega
 have b:j=0\/j=1\/j=2\/j=3\/j=4\/j=5:=by omega
 rcases a with rfl|rfl|rfl|rfl|rfl|rfl|rfl|rfl <;> rcases b with rfl|rfl|rfl|rfl|rfl|rfl <;> rfl
abbrev eX:Array Aj:=#[O Bp 71,O Bp 69,O Bp 84,O Bp 32,O Bp 47,O Bp 120,O Bp 121,O Bp 63,O Bp 113,O Bp 32,O Bp 72,O Bp 84,O Bp 84,O Bp 80,O Bp 47,O Bp 49,O Bp 46,O Bp 49,O Bp 13,O Bp 10,O Bp 72,O Bp 111,O Bp 115,O Bp 116,O Bp 58,O Bp 32,O Bp 97,O Bp 46,O Bp 66,O Bp 58,O Bp 56,O Bp 48,O Bp 13,O Bp 10,O Bp 13,O Bp 10]
abbrev jh:Obj:=.cells eX 5 (36,37)
structure Bg.I (w0 wr:Ag) (wb B h gs i:Ad):Prop where
 gr:w0.grownBy wr S
 ge:gs=h+2
 st:wr.heap[gs]?=V (Ae (zgJ h).toArray 80 (0,0))
 b1:wr.heap[h]?=V (Ae (Ba Bg.get).toArray 5 (36,37))
 b2:wr.heap[h+1]?=V (Ae (Ba Bg.get).toArray 5 (36,37))
 ex:∃vl es ev ys,Z es<=4+4*i/\(Z ev)<=4*i/\(Z ys)=Bg.y i/\L.W wr wb B (36*i) vl es ev ys/\∀(j:Ad) (p:L.Y),ys[j]?=V p->∀k,p.F k->h+2<k
theorem Bg.I.arg {r n:Ad}(q:Bg.I w0 wr r B h n i)(t:i<8):L.Arg wr (Bg.s i) (Bg.a h i) (Z (Bg.l i)) (Bg.l i):=by
 have f:∀g,wr.heap[g]?=V (Ae (Ba Bg.get).toArray 5 (36,37))->RdO wr (X (V ⟨g,0,S⟩) (Z Bg.get) (Z Bg.get)) Bg.get:=fun g hg=>Bf ⟨g,0,Z Bg.get,rfl,Aq _,zO hg,fun j u hu=>by
  rw[Gr,zB hg,Fo];unfold Ba;rw[Fq,hu];rfl⟩
 have p:∀(c:Ad),RdO wr (X S 0 c) []:=fun c=>Or.inl ⟨S,c,rfl,rfl⟩
 have d:i=2\/i=6\/(i≠2/\i≠6):=by omega
 have b:(Bg.s i).size<=maxLen:=by
  unfold Bg.s;split
  ·exact Bi (show Bg.first.size<=1000 by decide) (by decide)
  ·exact Ax _
 rcases d with rfl|rfl|⟨h2,h6⟩
 ·exact⟨b,f h q.b1,fun _ g o e=>by cases e;exact zO q.b1,(fun e=>by cases e),by decide⟩
 ·exact⟨b,f (h+1) q.b2,fun _ g o e=>by cases e;exact zO q.b2,(fun e=>by cases e),by decide⟩
 ·have k:Bg.l i=[]:=by unfold Bg.l;rw[Aw (by omega)]
  have m:Bg.a h i=S:=by unfold Bg.a;rw[Aw h2,Aw h6]
  rw[k,m];exact⟨b,p _,(fun h=>absurd rfl h),(fun _=>rfl),Ax _⟩
theorem Bg.I.step {l n:Ad}(q:Bg.I w0 wr l B h n i)(hi:i<8)(a:Bg.k i<=8)(w:w0.heap.size<=B){b:A L.Y}(E:ne<=4+4*(i+1))(H:nv<=4*(i+1))(z:N<=36*(i+1))(Q:Z b=Bg.y i)(x:∀(j:Ad) (p:L.Y),b[j]?=V p->∀k,p.F k->h+2<k)(s:L.St wr w' l B N ne nv (L.ny (Bg.k i) (Z b)) b):Bg.I w0 w' l B h n (i+1):=by
 obtain⟨vl,o,r,m,h1,h2,u,v,h5⟩:=s.ex;have d:∀{k:Ad} {cs:Array Aj} {t:TypeId} {f:Ad×Ad},wr.heap[k]?=V (Ae cs t f)->t ∉ lawTypes->k<=h+2->w'.heap[k]?=V (Ae cs t f):=fun {k cs t f} a ht hl=>s.turn.keep a (fun c=>by
  rcases c.2 with ⟨c2,t2,f2,e1,e2⟩|⟨j,p,e1,e2⟩
  ·rw[a] at e1;simp at e1
   exact ht (by rw[e1.2.1];exact e2)
  ·have:=x j p e1 k e2;omega)
 have C:=q.ge;have hz:=zO q.st;refine⟨s.grown q.gr w,C,d q.st (by decide) (by omega),d q.b1 (by decide) (by omega),d q.b2 (by decide) (by omega),vl,o,r,m,by omega,by omega,?_,v.keep (zP _ S) z,fun j p hj k a=>?_⟩
 ·rw[u,Q]
  have g:i=0\/i=1\/i=2\/i=3\/i=4\/i=5\/i=6\/i=7:=by omega
  rcases g with rfl|rfl|rfl|rfl|rfl|rfl|rfl|rfl <;> first|rfl|(exact absurd a (by decide))
 grind[lawTypes,zO,zP,Bg.I,Bg.k,L.Y,Bg.y,L.St,L.ny]
theorem Bg.I.skip {c:Ad}(q:Bg.I w0 wr c B h b i)(s:i<8)(m:¬Bg.k i<=8):Bg.I w0 wr c B h b (i+1):=by
 obtain⟨n,d,f,o,p,r,g,j,l⟩:=q.ex;refine⟨q.gr,q.ge,q.st,q.b1,q.b2,n,d,f,o,by omega,by omega,?_,j.keep (zP _ S) (by omega),l⟩;rw[g];have a:i=0\/i=1\/i=2\/i=3\/i=4\/i=5\/i=6\/i=7:=by omega
 rcases a with rfl|rfl|rfl|rfl|rfl|rfl|rfl|rfl <;> first|rfl|(exact absurd (by decide) m)
abbrev zcL (h:Ad):Obj:=.cells #[O Ai 4,O Ai 0,O Ai 0,O Nr 0,I ⟨#[]⟩,X S 0 0,O Ai 5,O Ai 0,O Ai 0,O Nr 0,I ⟨#[]⟩,X S 0 0,O Ai 6,O Ai 0,O Ai 1,O Nr 0,I ⟨#[]⟩,X (V ⟨h,0,S⟩) 36 36,O Ai 8,O Ai 0,O Ai 0,O Nr 0,I ⟨#[]⟩,X S 0 0,O Ai 10,O Ai 0,O Ai 0,O Nr 0,I ⟨#[104,111,115,116,32,34,65,46,98,34,123,114,117,108,101,32,55,123,112,97,116,104,34,47,120,34,59,116,111,34,117,34,49,44,34,118,34,50,59,114,101,112,108,97,99,101,34,47,34,59,125,114,117,108,101,32,57,123,112,97,116,104,34,47,34,59,116,111,34,117,34,49,44,34,118,34,48,59,125,125]⟩,X S 0 0,O Ai 11,O Ai 0,O Ai 0,O Nr 4,I ⟨#[]⟩,X S 0 0,O Ai 6,O Ai 0,O Ai 1,O Nr 0,I ⟨#[]⟩,X (V ⟨h+1,0,S⟩) 36 36,O Ai 8,O Ai 0,O Ai 0,O Nr 0,I ⟨#[]⟩,X S 0 0] 80
theorem zb8 {m:Ad}{x:Aj}(h:L.W w m B 0 x [] [] [])(g0:w0.grownBy w S)(ab:w0.heap.size<=B)(hB:B<=w.heap.size)(hG:Glob w0)(hT:GT w0)(hE:GE w0)(ak:0<B/\Tryz.laysC172_ren.g 15<B):Am prog 37 #[Al (V ⟨m,0,S⟩),O Ai 8] w fun e w'=>e=Af (Av true)/\w0.grownBy w' S/\∃x es ev ys,Z es<=100/\(Z ev)<=100/\(Z ys)=1/\L.W w' m B 1000 x es ev ys:=by
 have H1:Y (∀s:As,s.size<=maxLen->Am prog 14 #[I s] w fun e w'=>e=Af (Av true)/\w.grownBy w' S):=fun s hs=>nD s w hs (hG.grown g0) (hT.grown g0)
 have H2:Y (∀(s:As) W,s.size<=maxLen->w.grownBy W S->Am prog 56 #[Al (V ⟨m,0,S⟩),I s] W fun e w'=>e=Af (Av true)/\L.St w w' m B 0 4 0 0 []):=fun s W hs hW=>by
  obtain⟨ve,vm,hI⟩:=(h.keep hW (Aq _)).r.inv;exact(rj hI s hs (Bi hB hW.size) (by simp) (hG.grown (zD g0 hW))).mono fun e w' ⟨q1,q2⟩=>⟨q1,((h.keep hW (Aq _)).packed q2 (by simp) (Aq _)).after hW⟩
 have H3:Y (∀(s:As) W,s.size<=maxLen->Am prog 58 #[I s,O Ai 0,O Nr 0] W (zgN W)):=fun s W hs=>zhL s 0 0 W hs (by decide) (by decide)
 have H4:Y (∀(W W':Ag) (a:Br Eu) (k:Ad) (l:A Ab),w0.grownBy W S->W'.ownsRow W.heap.size 5 1 (X a (Z l) k) (Z l) (Ba l)->W.grownBy W' S->Z l<=1000000000->Am prog 57 #[X a (Z l) k] W' fun e w'=>e=Af (Av true)/\W.grownBy w' S):=fun W W' a k l hs H hg hl=>by
  have gg:w0.grownBy W' S:=zD hs hg;refine(gR (RdO.of_row H) (fun _ g o e=>?_) (fun e=>?_) (by omega) (hG.grown gg) (hT.grown gg)).mono fun e w' ⟨q1,q2⟩=>⟨q1,zD hg q2⟩
  ·subst e;exact(World.ownsRow.lt H g rfl).2
  ·subst e
   by_cases hz:Z l=0
   ·exact Ep.1 hz
   ·obtain⟨g,gc,e1,_,_⟩:=Bm H (by omega)
    simp at e1
 have ae:Y (∀W N x es ev ys,L.W W m B N x es ev ys->B<=W.heap.size):=fun W N x es ev ys hw=>by
  obtain⟨_,_,_,_,q,_⟩:=hw.r.ex;exact Bi hw.r.low (Nat.le_of_lt (zO q))
 have HG:=hid hG;have HT:=hid hT;have HE:=hid hE;have af:=hid g0;clear h hG hT hE g0;go_in;go_wp2_with fail;refine(H1.o _ (by rw[dO];decide)).mono ?_;rintro e w1 ⟨rfl,g1⟩;have G1:=hid g1;clear g1 H1;go_wp2_with fail;refine(H2.o _ _ (by rw[dO];decide) G1.o).mono ?_;rintro e w2 ⟨rfl,F⟩;have S2:=hid F;have G2:=hid (F.grown af.o ab);clear F G1 H2;go_wp2_with fail;refine(H3.o _ _ (by rw[dO];decide)).mono ?_;rintro e w3 ⟨a,k,l,rfl,H,hg,hl⟩;have HU:=hid (H4.o w2 w3 a k l G2.o H hg hl);clear H hg hl H3 H4;go_wp2_with fail;refine HU.o.mono ?_;rintro e b ⟨rfl,g4⟩;have G4:=hid g4;clear g4 HU;have al:(convert 32 32 (X (V ⟨b.heap.size,0,S⟩) 36 36)).run prog (b.alloc (Ae eX 5)) = .ok (X (V ⟨b.heap.size,0,S⟩) 36 36) (b.alloc jh):=Qg (P:=prog) b 32 5 eX 36 36 underlying32 underlying5;have am:(convert 32 32 (X (V ⟨b.heap.size+1,0,S⟩) 36 36)).run prog ((b.alloc jh).alloc (Ae eX 5)) = .ok (X (V ⟨b.heap.size+1,0,S⟩) 36 36) ((b.alloc jh).alloc jh):=by
  have h:=Qg (P:=prog) (b.alloc jh) 32 5 eX 36 36 underlying32 underlying5;rw[show(b.alloc jh).heap.size=b.heap.size+1 by simp] at h;exact h
 have Q:Y (Bg.I w0 (((b.alloc jh).alloc jh).alloc (zcL b.heap.size)) m B b.heap.size (b.heap.size+1+1) 0):=by
  obtain⟨an,ag,ah,ao,s1,s2,s3,s4,s5⟩:=S2.o.ex;have ai:=Ac b jh S;have aa:=Ac (b.alloc jh) jh S;have E:=Ac ((b.alloc jh).alloc jh) (zcL b.heap.size) S;have gg:=zD G4.o (zD ai (zD aa E));have a1:=Bn b jh;have a2:=Bn (b.alloc jh) jh;have a3:=Bn ((b.alloc jh).alloc jh) (zcL b.heap.size);rw[show(b.alloc jh).heap.size=b.heap.size+1 by simp] at a2;rw[show((b.alloc jh).alloc jh).heap.size=b.heap.size+1+1 by simp] at a3;have hy:ao=[]:=Ep.1 s3;subst hy;exact⟨zD G2.o gg,rfl,a3,zE (zE a1 aa (by simp)) E (by simp),zE a2 E (by simp),an,ag,ah,[],by omega,by omega,rfl,s4.keep gg (Ax _),fun j p hj=>by cases hj⟩
 go_upto_region 9 with fail;generalize(((b.alloc jh).alloc jh).alloc (zcL b.heap.size))=w5 at*;clear al am S2 G2 G4;generalize b.heap.size+1+1=gs at*;generalize b.heap.size=h at*;go_wp2_with fail
 go_loopw [5,9] (fun okv iv wr=>okv=Av true/\∃i:Ad,i<=8/\iv=O Ai i/\Y (Bg.I w0 wr m B h gs i)) (fun _ iv _=>8-(intOf iv).toNat)
 ·exact⟨rfl,0,by omega,rfl,Q⟩
 ·
  obtain⟨rfl,i,ap,rfl,f⟩:=hrel;clear Q
  by_cases t:i<8
  ·have aq:(i:Ak)<8:=by omega
   have d:∀j,j<6->wr.cell? ⟨gs,i*6+j,S⟩=(zgK h i)[j]?:=fun j hj=>by rw[zB f.o.st,Fo];exact zm4 h i j t hj
   have d0:wr.cell? ⟨gs,i*6,S⟩=V (O Ai (Bg.k i)):=d 0 (by omega);have d1:wr.cell? ⟨gs,i*6+1,S⟩=V (O Ai 0):=d 1 (by omega);have d2:wr.cell? ⟨gs,i*6+2,S⟩=V (O Ai (Bg.c i)):=d 2 (by omega);have d3:wr.cell? ⟨gs,i*6+3,S⟩=V (O Nr (Bg.n i:Ad)):=d 3 (by omega);have d4:wr.cell? ⟨gs,i*6+4,S⟩=V (I (Bg.s i)):=d 4 (by omega);have d5:wr.cell? ⟨gs,i*6+5,S⟩=V (X (Bg.a h i) (Z (Bg.l i)) (Z (Bg.l i))):=d 5 (by omega);clear d
   by_cases hk:Bg.k i<=8
   ·obtain⟨ad,z,C,u,l1,l2,l3,v,l5⟩:=f.o.ex
    have ar:Z (Bg.l i)<=36:=by unfold Bg.l;split <;> decide
    have au:Bg.y i<=1:=by unfold Bg.y;split <;> omega
    have HC:Y (Am prog 38 #[Al (V ⟨m,0,S⟩),.agg #[O Ai (Bg.k i),O Ai 0,O Ai (Bg.c i),O Nr (Bg.n i:Ad),I (Bg.s i),X (Bg.a h i) (Z (Bg.l i)) (Z (Bg.l i))]] wr fun e w'=>e=Af (Av true)/\Bg.I w0 w' m B h gs (i+1)):=by
     refine(rn v (Bg.k i) 0 (Bg.c i) (Bg.n i:Ad) hk (by decide) (f.o.arg t) (fun h0 g o e j p hj hF=>?_) (by omega) (ae.o wr _ ad z C u v) (by omega) (by omega) (by omega) (by omega) (HG.o.grown f.o.gr) (HT.o.grown f.o.gr) (HE.o.grown f.o.gr) ak).mono fun e w' ⟨q1,q2⟩=>⟨q1,f.o.step t hk ab (by omega) (by omega) (by omega) l3 l5 q2⟩
     have:=l5 j p hj g hF;unfold Bg.a at e
     split at e
     ·cases e;omega
     ·split at e
      ·cases e;omega
      ·cases e
    clear v l5 f;go_wp2_with fail;refine HC.o.mono ?_;rintro e w6 ⟨rfl,hx⟩;have HX:=hid hx;clear hx HC d0 d1 d2 d3 d4 d5;go_wp2_with fail
    go_roundw
    ·exact⟨rfl,i+1,by omega,by go_num,HX⟩
    ·simp[intOf];omega
   ·have HX:=hid (f.o.skip t hk)
    clear f;go_wp2_with fail
    go_roundw
    ·exact⟨rfl,i+1,by omega,by go_num,HX⟩
    ·simp[intOf];omega
  ·have aj:i=8:=by omega
   subst aj;obtain⟨ad,z,C,u,l1,l2,l3,v,l5⟩:=f.o.ex;obtain⟨la,lk,rfl⟩:=zL v.l;have k0:wr.cell? ⟨m,0,S⟩=V (X la 1 lk):=by
    obtain⟨_,_,_,_,q,_⟩:=v.r.ex;have h:=zB (i:=0) q;rw[show (Z u)=1 from l3] at h;exact h
   have HX:Y (w0.grownBy wr S/\∃x es ev ys,Z es<=100/\(Z ev)<=100/\(Z ys)=1/\L.W wr m B 1000 x es ev ys):=⟨f.o.gr,_,z,C,u,by omega,by omega,l3,v.keep (zP _ S) (by omega)⟩;clear f v l5 l3;go_wp2;go_ret;exact⟨rfl,HX.o⟩
def vy (f:Ad->Ad):Ad->Ad
 |0=>0
 |n+1=>vy f n+f n
theorem zgO (f:Ad->Ad){n:Ad}(h:i<=n):vy f i<=vy f n:=by
 induction n with
 |zero=>rw[Nat.le_zero.1 h];exact Aq _
 |succ n ih=>
  by_cases a:i<=n
  ·exact Bi (ih a) (Fv _ _)
  ·rw[show i=n+1 by omega];exact Aq _
def dD (w:Ag)(va:Br Eu)(n:Ad)(f:Ad->Ad):Prop:=∀i,i<n->∃bk o,va=V ⟨bk,o,S⟩/\∃(k e c N:Ak) (s:As) (sa:Br Eu) (sc:Ad) (l:A Ab),
 w.cell? ⟨bk,o+i*6,S⟩=V (O Ai k)/\w.cell? ⟨bk,o+i*6+1,S⟩=V (O Ai e)/\w.cell? ⟨bk,o+i*6+2,S⟩=V (O Ai c)/\w.cell? ⟨bk,o+i*6+3,S⟩=V (O Nr N)/\w.cell? ⟨bk,o+i*6+4,S⟩=V (I s)/\w.cell? ⟨bk,o+i*6+5,S⟩=V (X sa (Z l) sc)/\L.Arg w s sa sc l/\(Z l)<=f i/\-9223372036854775808<=e/\e<9223372036854775808
structure L.P (w wr:Ag) (N ne nv ny:Ad):Prop where
 gr:w.grownBy wr S
 ex:∃vl es ev ys,Z es<=ne/\(Z ev)<=nv/\(Z ys)<=ny/\L.W wr w.heap.size w.heap.size N vl es ev ys
theorem L.P.looks (h:L.P w wr N ne nv b)(l:ne<=1000000000)(m:nv<=1000000000):Am prog 39 #[Al (V ⟨w.heap.size,0,S⟩)] wr fun e w'=>e=Af (Av true)/\L.P w w' N ne nv b:=by
 obtain⟨j,c,d,k,f,g,i,a⟩:=h.ex;exact(nC a.r (by omega) (by omega)).mono fun e w' ⟨q1,q2⟩=>⟨q1,zD h.gr q2,j,c,d,k,f,g,i,a.keep q2 (Aq _)⟩
theorem L.P.of {m:Ad}{l:A L.Y}(g:w.grownBy wr S)(h:L.St wr w' w.heap.size w.heap.size N ne nv m l)(o:m<=b):L.P w w' N ne nv b:=by
 obtain⟨k,c,d,a,f,i,n,j,_⟩:=h.ex;exact⟨h.grown g (Aq _),k,c,d,a,f,i,by omega,j⟩
theorem zbA {va:Br Eu}{n vc:Ad}{f:Ad->Ad}(hx:dD w va n f)(hn:n<=1100000)(hf:vy f n<=1100000)(hG:Glob w)(hT:GT w)(hE:GE w)(F:0<w.heap.size/\Tryz.laysC172_ren.g 15<w.heap.size):Am prog 15 #[X va n vc,O Ai 8] w fun e w'=>e=Af (Av true)/\w.grownBy w' S:=by
 have gA:w.grownBy (w.alloc (Ae #[X S 0 0,X S 0 0,X S 0 0,X S 0 0,X S 0 0] 77)) S:=Ac _ _ S;have af:L.W (w.alloc (Ae #[X S 0 0,X S 0 0,X S 0 0,X S 0 0,X S 0 0] 77)) w.heap.size w.heap.size 0 (X S 0 0) [] [] []:=⟨⟨⟨_,_,_,_,Bn _ _,Bk _ _ _ _,Bk _ _ _ _,Bk _ _ _ _,Bk _ _ _ _,(fun k hk=>by cases hk)⟩,(fun e he=>by cases he),(fun e he=>by cases he),Aq _,(fun e he=>by cases he)⟩,Bk _ _ _ _,(fun i p hi=>by cases hi),(fun i j p q _ hi=>by cases hi),(fun i p hi=>by cases hi)⟩;have HX:=hid hx;have aa:=hid (zb8 af gA (Aq _) gA.size hG hT hE F);have ae:Y (∀(wr:Ag) (i:Ad) (k e c N:Ak) (s:As) (sa:Br Eu) (sc:Ad) (l:A Ab),i<n->k<=8->L.P w wr (1000+vy f i) (100+4*i) (100+4*i) (1+i)->L.Arg w s sa sc l->Z l<=f i->(-9223372036854775808<=e/\e<9223372036854775808)->Am prog 38 #[Al (V ⟨w.heap.size,0,S⟩),.agg #[O Ai k,O Ai e,O Ai c,O Nr N,I s,X sa (Z l) sc]] wr fun e w'=>e=Af (Av true)/\L.P w w' (1000+vy f (i+1)) (100+4*(i+1)) (100+4*(i+1)) (1+(i+1))):=fun wr i k e c N s sa sc l hi hk v ha hl he=>by
  obtain⟨B,t,u,b,h1,h2,h3,Q⟩:=v.ex;have hs:=zgO f (show i+1<=n by omega);have az:vy f (i+1)=vy f i+f i:=rfl;refine(rn Q k e c N hk he (ha.keep v.gr) (fun h0 g o e j p hj hF=>?_) (by omega) v.gr.size (by omega) (by omega) (by omega) (by omega) (hG.grown v.gr) (hT.grown v.gr) (hE.grown v.gr) F).mono fun e w' ⟨C,z⟩=>⟨C,L.P.of v.gr (z.widen (by omega) (by omega) (by omega)) (by unfold L.ny;split <;> omega)⟩
  have:=((Q.yd j p hj).1.lt g hF).1;have:=ha.bk h0 g o e
  omega
 go_in;go_wp2_with fail;refine aa.o.mono ?_;rintro e w1 ⟨rfl,g1,aC,ao,ar,aE,l1,l2,l3,l4⟩;have ab:Y (L.P w w1 (1000+vy f 0) (100+4*0) (100+4*0) (1+0)):=⟨g1,aC,ao,ar,aE,l1,l2,Nat.le_of_eq l3,l4⟩;go_wp2_with fail
 go_loopw [6,7] (fun ok iv wr=>∃i:Ad,i<=n/\iv=O Ai i/\ok=Av true/\Y (L.P w wr (1000+vy f i) (100+4*i) (100+4*i) (1+i))) (fun _ iv _=>n-(intOf iv).toNat)
 ·exact⟨0,Ax _,rfl,rfl,ab⟩
 ·
  obtain⟨i,aG,rfl,rfl,d⟩:=hrel
  by_cases ah:i<n
  ·have aF:(i:Ak)<n:=by omega
   obtain⟨H,o,rfl,k,e,c,N,s,sa,sc,l,q0,C,z,q3,q4,q5,ha,ag,av,aw⟩:=HX.o i ah;have d0:=d.o.gr.cell (a:=⟨H,o+i*6,S⟩) q0 (by simp);have d1:=d.o.gr.cell (a:=⟨H,o+i*6+1,S⟩) C (by simp);have d2:=d.o.gr.cell (a:=⟨H,o+i*6+2,S⟩) z (by simp);have d3:=d.o.gr.cell (a:=⟨H,o+i*6+3,S⟩) q3 (by simp);have d4:=d.o.gr.cell (a:=⟨H,o+i*6+4,S⟩) q4 (by simp);have d5:=d.o.gr.cell (a:=⟨H,o+i*6+5,S⟩) q5 (by simp)
   by_cases hk:k<=8
   ·have ay:¬(8<k):=by omega
    have HC:=hid (ae.o wr i k e c N s sa sc l ah hk d.o ha ag ⟨av,aw⟩);go_wp2_with fail;refine HC.o.mono ?_;rintro e w2 ⟨rfl,ai⟩;have y:=hid (ai.looks (by omega) (by omega));go_wp2_with fail;refine y.o.mono ?_;rintro e w3 ⟨rfl,aj⟩;have E:=hid aj;go_wp2_with fail
    go_roundw
    ·exact⟨i+1,by omega,by go_num,rfl,E⟩
    ·simp[intOf];omega
   ·have ay:8<k:=by omega
    have E:Y (L.P w wr (1000+vy f (i+1)) (100+4*(i+1)) (100+4*(i+1)) (1+(i+1))):=by
     obtain⟨B,t,u,b,h1,h2,h3,Q⟩:=d.o.ex;have az:vy f (i+1)=vy f i+f i:=rfl;exact⟨d.o.gr,B,t,u,b,by omega,by omega,by omega,Q.keep (zP _ S) (by omega)⟩
    go_wp2_with fail
    go_roundw
    ·exact⟨i+1,by omega,by go_num,rfl,E⟩
    ·simp[intOf];omega
  ·have hE:i=n:=by omega
   subst hE;obtain⟨aB,an,aq,ak,k1,k2,k3,x⟩:=d.o.ex;obtain⟨m,hm⟩:∃m,Y (Z ak=m):=⟨_,rfl⟩;have aJ:m<=1+i:=by rw[<-hm.o];exact k3
   have ad:Y (w.grownBy wr S/\∃B t u b,Z t<=100+4*i/\(Z u)<=100+4*i+4*0/\(Z b)=m/\L.W wr w.heap.size w.heap.size (1000+vy f i) B t u b):=⟨d.o.gr,aB,an,aq,ak,k1,k2,hm.o,x⟩;have au:1000+vy f i<=1000000000:=by omega
   generalize 1000+vy f i=NN at*;go_wp2_with fail
   go_loopw [6,9] (fun ok jv wz=>ok=Av true/\∃j:Ad,j<=m/\jv=O Ai j/\Y (w.grownBy wz S/\∃B t u b,Z t<=100+4*i/\(Z u)<=100+4*i+4*j/\(Z b)=m/\L.W wz w.heap.size w.heap.size NN B t u b)) (fun _ jv _=>m-(intOf jv).toNat)
   ·exact⟨rfl,0,Ax _,rfl,ad⟩
   ·
    obtain⟨rfl,j,aH,rfl,HQ⟩:=hrel;obtain⟨hg,B,t,u,b,k1,k2,k3,x⟩:=HQ.o;obtain⟨la,lk,rfl⟩:=zL x.l;have c0:wr.cell? ⟨w.heap.size,0,S⟩=V (X la m lk):=by
     obtain⟨_,_,_,_,q,_⟩:=x.r.ex;have h:=zB (i:=0) q;rw[k3] at h;exact h
    by_cases aI:j<m
    ·have ax:(j:Ak)<m:=by omega
     obtain⟨gl,gk,e1,_,_⟩:=Bm x.l (by omega);simp only[Au,Fb] at e1;obtain⟨rfl,rfl⟩:=e1;obtain⟨p,v⟩:∃p,b[j]?=V p:=⟨_,Bd (by omega)⟩;have p0:wr.cell? ⟨gl,j*2,S⟩=V (Al (V ⟨p.xb,0,S⟩)):=(Ap x.l _ (by omega)).trans (bf b j p 0 v (by omega));have p1:wr.cell? ⟨gl,j*2+1,S⟩=V (Al (V ⟨p.yb,0,S⟩)):=(Ap x.l _ (by omega)).trans (bf b j p 1 v (by omega));have HC:Y (Am prog 40 #[Al (V ⟨w.heap.size,0,S⟩),.agg #[Al (V ⟨p.xb,0,S⟩),Al (V ⟨p.yb,0,S⟩)]] wr fun e w'=>e=Af (Av true)/\w.grownBy w' S/\∃B t u b,Z t<=100+4*i/\(Z u)<=100+4*i+4*(j+1)/\(Z b)=m/\L.W w' w.heap.size w.heap.size NN B t u b):=(lC x v hg.size (by omega) au).mono fun e w' ⟨C,z⟩=>by
      obtain⟨aA,am,ap,aD,h1,h2,h3,Q,_⟩:=z.ex;exact⟨C,z.grown hg (Aq _),aA,am,ap,aD,by omega,by omega,by omega,Q⟩
     go_wp2_with fail;refine HC.o.mono ?_;rintro e w2 ⟨rfl,hx⟩;have al:=hid hx;go_wp2_with fail
     go_roundw
     ·exact⟨rfl,j+1,by omega,by go_num,al⟩
     ·simp[intOf];omega
    ·have ax:¬(j:Ak)<m:=by omega
     have y:Y (Am prog 39 #[Al (V ⟨w.heap.size,0,S⟩)] wr fun e w'=>e=Af (Av true)/\w.grownBy w' S):=(nC x.r (by omega) (by omega)).mono fun e w' ⟨C,z⟩=>⟨C,zD hg z⟩
     go_wp2_with fail;refine y.o.mono ?_;rintro e w3 ⟨rfl,g3⟩;have G3:=hid g3;go_wp2;go_ret;exact⟨rfl,G3.o⟩
theorem zb7 {j:Br Eu}{n vc:Ad}{f:Ad->Ad}(i:dD w j n f)(m:n<=1100000)(l:vy f n<=1100000)(d:Glob w)(h:GT w)(c:GE w)(a:0<w.heap.size/\Tryz.laysC172_ren.g 15<w.heap.size):Am prog 5 #[X j n vc] w fun e w'=>e=Af (Av true)/\w.grownBy w' S:=by
 have H:=hid (zbA (vc:=vc) i m l d h c a);go_in;go_wp2_with fail;refine H.o.mono ?_;rintro e o ⟨rfl,b⟩;have k:=hid b;go_wp2;go_ret;exact⟨rfl,k.o⟩
end Go.Proofs.YtfocdefchbnkpaaGreatDoor
