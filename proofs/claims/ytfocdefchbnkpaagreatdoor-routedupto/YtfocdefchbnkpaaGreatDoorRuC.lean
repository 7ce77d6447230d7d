/- Each request goes where the policy says: what a request asks for, as the keeper writes it. -/
import Derived.Test.YtfocdefchbnkpaaGreatDoorAli
import Derived.Test.YtfocdefchbnkpaaGreatDoorKeG
import Derived.Deep.DeepCutAuto
import Derived.Laws.AppendOwnNone
import Derived.Test.YtfocdefchbnkpaaGreatDoorYpF
set_option maxRecDepth 100000
set_option maxHeartbeats 20000000
namespace Go.Proofs.YtfocdefchbnkpaaGreatDoor
open Go.RowKit
structure Aw where
 h:Int
 p:Int
 e:Int
 d:Int
 b:Int
def Aw.cells (q:Aw):List Value:=[.int .i64 q.h,.int .i64 q.p,.int .i64 q.e,.int .i64 q.d,.int .i64 q.b]
def I64 (z:Int):Prop:=-9223372036854775808<=z/\z<=9223372036854775807
structure Aw.Ok (q:Aw):Prop where
 h:I64 q.h
 p:I64 q.p
 e:I64 q.e
 d:I64 q.d
 b:I64 q.b
def Aw.ak (q:Aw):Ak:=⟨Kp.pick q.h 6,Kp.pick q.p 6,Kp.pick q.e 4,Kp.pick q.d 2,Kp.pick q.b 40⟩
theorem Aw.ak_ok (q:Aw):q.ak.Ok:=⟨Kp.pick_lt _ (by decide),Kp.pick_lt _ (by decide),Kp.pick_lt _ (by decide),Kp.pick_lt _ (by decide),Kp.pick_lt _ (by decide)⟩
theorem q115q:∀k,k<6->(#[.string ⟨#[97,46,98]⟩,.string ⟨#[120,46,98]⟩,.string ⟨#[121,46,120,46,98]⟩,.string ⟨#[98]⟩,.string ⟨#[65,46,66,58,56,49]⟩,.string ⟨#[99]⟩]:Array Value)[k]?=some (.string (R.str (Ru.host k)))
 | 0,_=>rfl
 | 1,_=>rfl
 | 2,_=>rfl
 | 3,_=>rfl
 | 4,_=>rfl
 | 5,_=>rfl
 | k+6,h=>by omega
theorem q54q (q:Aw)(hq:q.Ok)(w:World):Calls Tryz.prog 49 #[.agg #[.int .i64 q.h,.int .i64 q.p,.int .i64 q.e,.int .i64 q.d,.int .i64 q.b]] w fun e w'=>e = .returned (.string (R.str (Ru.host q.ak.h)))/\w.grownBy w' none:=by
 have hk:=Kp.pick_lt q.h (n:=6) (by decide)
 have HP:Y (∀W,Calls Tryz.prog 21 #[.int .i64 q.h,.int .i64 6] W fun e w'=>e = .returned (.int .i64 (Kp.pick q.h 6:Nat))/\w'=W):=fun W=>q3q q.h 6 W hq.h (by decide)
 have HG:=hid (zA (zJ w (.cells #[.int .i64 q.h,.int .i64 q.p,.int .i64 q.e,.int .i64 q.d,.int .i64 q.b] 57) none) (zJ (w.alloc (.cells #[.int .i64 q.h,.int .i64 q.p,.int .i64 q.e,.int .i64 q.d,.int .i64 q.b] 57)) (.cells #[.string ⟨#[97,46,98]⟩,.string ⟨#[120,46,98]⟩,.string ⟨#[121,46,120,46,98]⟩,.string ⟨#[98]⟩,.string ⟨#[65,46,66,58,56,49]⟩,.string ⟨#[99]⟩] 9) none))
 have cw:((w.alloc (.cells #[.int .i64 q.h,.int .i64 q.p,.int .i64 q.e,.int .i64 q.d,.int .i64 q.b] 57)).alloc (.cells #[.string ⟨#[97,46,98]⟩,.string ⟨#[120,46,98]⟩,.string ⟨#[121,46,120,46,98]⟩,.string ⟨#[98]⟩,.string ⟨#[65,46,66,58,56,49]⟩,.string ⟨#[99]⟩] 9)).cell? ⟨w.heap.size+1,Kp.pick q.h 6,none⟩=some (.string (R.str (Ru.host (Kp.pick q.h 6)))):=(z8 (q1q [(.cells #[.int .i64 q.h,.int .i64 q.p,.int .i64 q.e,.int .i64 q.d,.int .i64 q.b] 57),(.cells #[.string ⟨#[97,46,98]⟩,.string ⟨#[120,46,98]⟩,.string ⟨#[121,46,120,46,98]⟩,.string ⟨#[98]⟩,.string ⟨#[65,46,66,58,56,49]⟩,.string ⟨#[99]⟩] 9)] w 1 _ rfl)).trans (q115q _ hk)
 have ab:((Kp.pick q.h 6:Nat):Int)<6:=by omega
 show Calls _ _ _ _ fun e w'=>e = .returned (.string (R.str (Ru.host (Kp.pick q.h 6))))/\_
 generalize Kp.pick q.h 6=k at*
 go_enter Tryz.func49,Tryz.ntmps49
 go_wp2_with fail
 refine(HP.o _).mono ?_
 rintro e W1 ⟨rfl,aa⟩
 obtain rfl:=aa.symm
 clear HP aa
 go_wp2
 go_ret
 exact⟨rfl,HG.o⟩
theorem q116q:∀k,k<6->(#[.string ⟨#[47]⟩,.string ⟨#[47,120]⟩,.string ⟨#[47,120,47,121]⟩,.string ⟨#[47,120,121]⟩,.string ⟨#[47,121,63,47,120]⟩,.string ⟨#[47,120,63,113,61,49]⟩]:Array Value)[k]?=some (.string (R.str (Ru.path k)))
 | 0,_=>rfl
 | 1,_=>rfl
 | 2,_=>rfl
 | 3,_=>rfl
 | 4,_=>rfl
 | 5,_=>rfl
 | k+6,h=>by omega
theorem q7q (q:Aw)(hq:q.Ok)(w:World):Calls Tryz.prog 31 #[.agg #[.int .i64 q.h,.int .i64 q.p,.int .i64 q.e,.int .i64 q.d,.int .i64 q.b]] w fun e w'=>e = .returned (.string (R.str (Ru.path q.ak.p)))/\w.grownBy w' none:=by
 have hk:=Kp.pick_lt q.p (n:=6) (by decide)
 have HP:Y (∀W,Calls Tryz.prog 21 #[.int .i64 q.p,.int .i64 6] W fun e w'=>e = .returned (.int .i64 (Kp.pick q.p 6:Nat))/\w'=W):=fun W=>q3q q.p 6 W hq.p (by decide)
 have HG:=hid (zA (zJ w (.cells #[.int .i64 q.h,.int .i64 q.p,.int .i64 q.e,.int .i64 q.d,.int .i64 q.b] 57) none) (zJ (w.alloc (.cells #[.int .i64 q.h,.int .i64 q.p,.int .i64 q.e,.int .i64 q.d,.int .i64 q.b] 57)) (.cells #[.string ⟨#[47]⟩,.string ⟨#[47,120]⟩,.string ⟨#[47,120,47,121]⟩,.string ⟨#[47,120,121]⟩,.string ⟨#[47,121,63,47,120]⟩,.string ⟨#[47,120,63,113,61,49]⟩] 9) none))
 have cw:((w.alloc (.cells #[.int .i64 q.h,.int .i64 q.p,.int .i64 q.e,.int .i64 q.d,.int .i64 q.b] 57)).alloc (.cells #[.string ⟨#[47]⟩,.string ⟨#[47,120]⟩,.string ⟨#[47,120,47,121]⟩,.string ⟨#[47,120,121]⟩,.string ⟨#[47,121,63,47,120]⟩,.string ⟨#[47,120,63,113,61,49]⟩] 9)).cell? ⟨w.heap.size+1,Kp.pick q.p 6,none⟩=some (.string (R.str (Ru.path (Kp.pick q.p 6)))):=(z8 (q1q [(.cells #[.int .i64 q.h,.int .i64 q.p,.int .i64 q.e,.int .i64 q.d,.int .i64 q.b] 57),(.cells #[.string ⟨#[47]⟩,.string ⟨#[47,120]⟩,.string ⟨#[47,120,47,121]⟩,.string ⟨#[47,120,121]⟩,.string ⟨#[47,121,63,47,120]⟩,.string ⟨#[47,120,63,113,61,49]⟩] 9)] w 1 _ rfl)).trans (q116q _ hk)
 have ab:((Kp.pick q.p 6:Nat):Int)<6:=by omega
 show Calls _ _ _ _ fun e w'=>e = .returned (.string (R.str (Ru.path (Kp.pick q.p 6))))/\_
 generalize Kp.pick q.p 6=k at*
 go_enter Tryz.func31,Tryz.ntmps31
 go_wp2_with fail
 refine(HP.o _).mono ?_
 rintro e W1 ⟨rfl,aa⟩
 obtain rfl:=aa.symm
 clear HP aa
 go_wp2
 go_ret
 exact⟨rfl,HG.o⟩
def Aw.At (q:Aw)(W:World)(b:Nat):Prop:=W.heap[b]?=some (.cells #[.int .i64 q.h,.int .i64 q.p,.int .i64 q.e,.int .i64 q.d,.int .i64 q.b] 57)
def Ru.ids:List UInt8:=(Ru.i1++Ru.c)++(Ru.i2++Ru.c)
theorem q69q (e:Nat):(Ru.env e).length<=4:=by unfold Ru.env;split <;> decide
theorem zs3:∀k,k<3->(#[.string ⟨#[116,101,115,116]⟩,.string ⟨#[108,105,118,101]⟩,.string ⟨#[84,101,115,116]⟩]:Array Value)[k]?=some (.string (R.str (Ru.env (k+1))))
 | 0,_=>rfl
 | 1,_=>rfl
 | 2,_=>rfl
 | k+3,h=>by omega
theorem q8q {a b:ByteArray}{x y:List UInt8}(h1:a=R.str x)(h2:b=R.str y):a++b=R.str (x++y):=by rw[h1,h2,q2q]
theorem q78q (q:Aw)(hq:q.Ok)(w:World):Calls Tryz.prog 29 #[.agg #[.int .i64 q.h,.int .i64 q.p,.int .i64 q.e,.int .i64 q.d,.int .i64 q.b]] w fun e w'=>e = .returned (.string (R.str (Ru.txt q.ak)))/\w.grownBy w' none:=by
 have ok:=q.ak_ok
 have HB:Y (q.At (w.alloc (.cells #[.int .i64 q.h,.int .i64 q.p,.int .i64 q.e,.int .i64 q.d,.int .i64 q.b] 57)) w.heap.size):=q1q [(.cells #[.int .i64 q.h,.int .i64 q.p,.int .i64 q.e,.int .i64 q.d,.int .i64 q.b] 57)] w 0 _ rfl
 have HG:=hid (zJ w (.cells #[.int .i64 q.h,.int .i64 q.p,.int .i64 q.e,.int .i64 q.d,.int .i64 q.b] 57) none)
 have aD:Y (∀W,Calls Tryz.prog 31 #[.agg #[.int .i64 q.h,.int .i64 q.p,.int .i64 q.e,.int .i64 q.d,.int .i64 q.b]] W fun e w'=>e = .returned (.string (R.str (Ru.path q.ak.p)))/\W.grownBy w' none):=fun W=>q7q q hq W
 have ax:Y (∀W,Calls Tryz.prog 49 #[.agg #[.int .i64 q.h,.int .i64 q.p,.int .i64 q.e,.int .i64 q.d,.int .i64 q.b]] W fun e w'=>e = .returned (.string (R.str (Ru.host q.ak.h)))/\W.grownBy w' none):=fun W=>q54q q hq W
 have aB:Y (∀W,Calls Tryz.prog 21 #[.int .i64 q.e,.int .i64 4] W fun e w'=>e = .returned (.int .i64 (q.ak.e:Nat))/\w'=W):=fun W=>q3q q.e 4 W hq.e (by decide)
 have aA:Y (∀W,Calls Tryz.prog 21 #[.int .i64 q.d,.int .i64 2] W fun e w'=>e = .returned (.int .i64 (q.ak.d:Nat))/\w'=W):=fun W=>q3q q.d 2 W hq.d (by decide)
 have aC:Y (∀W,Calls Tryz.prog 21 #[.int .i64 q.b,.int .i64 40] W fun e w'=>e = .returned (.int .i64 (q.ak.n:Nat))/\w'=W):=fun W=>q3q q.b 40 W hq.b (by decide)
 have az:Y (∀(i:Nat) W,i<1000000->Calls Tryz.prog 25 #[.int .i64 i] W fun e w'=>e = .returned (.string (R.str (R.dec i)))/\w'=W):=fun i W hi=>q79q i W hi
 have aP:=q5q q.ak.p
 have aO:(Ru.host q.ak.h).length<=6:=by unfold Ru.host;split <;> decide
 obtain⟨A1,am⟩:∃l,l=Ru.pre++Ru.path q.ak.p:=⟨_,rfl⟩
 obtain⟨A2,ao⟩:∃l,l=A1++(Ru.ver++(Ru.c++Ru.hL)):=⟨_,rfl⟩
 obtain⟨A3,aq⟩:∃l,l=A2++Ru.host q.ak.h:=⟨_,rfl⟩
 have e1:(⟨#[80,79,83,84,32]⟩:ByteArray)++R.str (Ru.path q.ak.p)=R.str A1:=by rw[am];exact q2q Ru.pre _
 have e2:R.str A1++(⟨#[32,72,84,84,80,47,49,46,49,13,10,72,111,115,116,58,32]⟩:ByteArray)=R.str A2:=by rw[ao];exact q2q _ (Ru.ver++(Ru.c++Ru.hL))
 have e3:R.str A2++R.str (Ru.host q.ak.h)=R.str A3:=by rw[aq];exact q2q _ _
 have e4:R.str A3++(⟨#[13,10]⟩:ByteArray)=R.str (Ru.tx0 q.ak):=by
  refine(q2q A3 Ru.c).trans ?_
  rw[aq,ao,am]
  congr 1;unfold Ru.tx0 Ru.l0 Ru.l1;simp only[xY]
 have l1:A1.length<=11:=by rw[am,zW];show 5+_<=11;omega
 have l2:A2.length<=28:=by rw[ao,zW];show _+17<=28;omega
 have l3:A3.length<=34:=by rw[aq,zW];omega
 have aG:(Ru.tx0 q.ak).length<=36:=by
  have:=congrArg ByteArray.size e4
  rw[ByteArray.size_append,R.str_size,R.str_size] at this
  have h2:(⟨#[13,10]⟩:ByteArray).size=2:=rfl
  omega
 have n1:¬(9223372036854775807<5+(R.str (Ru.path q.ak.p)).size):=by rw[R.str_size];omega
 have n2:¬(9223372036854775807<(R.str A1).size+17):=by rw[R.str_size];omega
 have n3:¬(9223372036854775807<(R.str A2).size+(R.str (Ru.host q.ak.h)).size):=by rw[R.str_size,R.str_size];omega
 have n4:¬(9223372036854775807<(R.str A3).size+2):=by rw[R.str_size];omega
 clear am ao aq l1 l2 l3 aP aO hq
 have aE:Y (Ru.txt q.ak=Ru.tx0 q.ak++(Ru.tx1 q.ak++(Ru.tx2 q.ak++Ru.tx3 q.ak))):=rfl
 generalize aN:q.ak=a at*
 clear aN
 obtain⟨ah,ap,ae,ad,an⟩:=a
 obtain⟨aQ,aR,aS,aT,aU⟩:=ok
 simp only at aQ aR aS aT aU
 have aj:Y (Ru.tx1 ⟨ah,ap,ae,ad,an⟩=if ae=0 then [] else Ru.eL++(Ru.env ae++([32]++Ru.c))):=by
  show(if ae=0 then [] else (Ru.eL++(Ru.env ae++[32]))++Ru.c)=_
  simp only[xY]
 have al:Y (Ru.tx2 ⟨ah,ap,ae,ad,an⟩=if ad=1 then Ru.ids else []):=rfl
 have au:Y (Ru.tx3 ⟨ah,ap,ae,ad,an⟩=if an=0 then Ru.c else Ru.cL++(R.dec an++((Ru.c++Ru.c)++List.replicate an 10))):=by
  show(if an=0 then Ru.c else ((Ru.cL++R.dec an)++Ru.c)++(Ru.c++List.replicate an 10))=_
  simp only[xY]
 generalize Ru.tx0 ⟨ah,ap,ae,ad,an⟩=t0 at*
 generalize Ru.tx1 ⟨ah,ap,ae,ad,an⟩=t1 at*
 generalize Ru.tx2 ⟨ah,ap,ae,ad,an⟩=t2 at*
 generalize Ru.tx3 ⟨ah,ap,ae,ad,an⟩=t3 at*
 generalize Ru.txt ⟨ah,ap,ae,ad,an⟩=tx at*
 generalize Ru.path ap=pa at*
 generalize Ru.host ah=ho at*
 go_enter Tryz.func29,Tryz.ntmps29
 go_upto_region 1 with fail
 generalize w.alloc (.cells #[.int .i64 q.h,.int .i64 q.p,.int .i64 q.e,.int .i64 q.d,.int .i64 q.b] 57)=wa at*
 have x0:wa.cell? ⟨w.heap.size,0,none⟩=some (.int .i64 q.h):=z8 HB.o
 have x1:wa.cell? ⟨w.heap.size,1,none⟩=some (.int .i64 q.p):=z8 HB.o
 have x2:wa.cell? ⟨w.heap.size,2,none⟩=some (.int .i64 q.e):=z8 HB.o
 have x3:wa.cell? ⟨w.heap.size,3,none⟩=some (.int .i64 q.d):=z8 HB.o
 have x4:wa.cell? ⟨w.heap.size,4,none⟩=some (.int .i64 q.b):=z8 HB.o
 have aZ:=zE HB.o
 go_cut [3] (fun sv wz=>sv = .string (R.str t0)/\Y (wa.grownBy wz none))
 case first=>
  go_region_law (first | (go_simp;go_at_call 31;refine(aD.o _).mono ?_;rintro e w1 ⟨rfl,g1⟩;have GP:=hid (zA (zQ wa) g1);have ai:=hid (zB HB.o GP.o (by simp));have y0:w1.cell? ⟨w.heap.size,0,none⟩=some (.int .i64 q.h):=z8 ai.o;have y1:w1.cell? ⟨w.heap.size,1,none⟩=some (.int .i64 q.p):=z8 ai.o;have y2:w1.cell? ⟨w.heap.size,2,none⟩=some (.int .i64 q.e):=z8 ai.o;have y3:w1.cell? ⟨w.heap.size,3,none⟩=some (.int .i64 q.d):=z8 ai.o;have y4:w1.cell? ⟨w.heap.size,4,none⟩=some (.int .i64 q.b):=z8 ai.o;clear g1) | (go_simp;go_at_call 49;refine(ax.o _).mono ?_;rintro e w2 ⟨rfl,g2⟩;have GL:=hid (zA GP.o g2);clear g2))
  all_goals
   go_wp2_with fail
   go_meet
   case rel=>exact⟨rfl,GL⟩
 case rest=>
  obtain⟨rfl,GB⟩:=hcut
  generalize wc=wb at*
  have af:=hid (zB HB.o GB.o (by simp))
  clear x0 x1 x2 x3 x4 HB aD ax e1 e2 e3 e4 n1 n2 n3 n4
  have x0:wb.cell? ⟨w.heap.size,0,none⟩=some (.int .i64 q.h):=z8 af.o
  have x1:wb.cell? ⟨w.heap.size,1,none⟩=some (.int .i64 q.p):=z8 af.o
  have x2:wb.cell? ⟨w.heap.size,2,none⟩=some (.int .i64 q.e):=z8 af.o
  have x3:wb.cell? ⟨w.heap.size,3,none⟩=some (.int .i64 q.d):=z8 af.o
  have x4:wb.cell? ⟨w.heap.size,4,none⟩=some (.int .i64 q.b):=z8 af.o
  have a0:=zE af.o
  go_wp2_with fail
  refine(aB.o _).mono ?_
  rintro e W1 ⟨rfl,aa⟩
  obtain rfl:=aa.symm
  clear aB aa
  go_upto_if 19 with fail
  go_cut [3] (fun sv wz=>sv = .string (R.str (t0++t1))/\Y (wb.grownBy wz none))
  case first=>
   by_cases h0:ae=0
   ·subst h0
    have aJ:Y (t0++t1=t0):=by show _=_;rw[aj.o,if_pos rfl,xn]
    go_wp2_with fail
    go_meet
    case rel=>exact⟨by rw[aJ.o],zM _ _⟩
   ·obtain⟨k,rfl⟩:∃k,ae=k+1:=⟨ae - 1,by omega⟩
    have aY:(k:Int)<3:=by omega
    have aI:=q69q (k+1)
    have ce:(wb.alloc (.cells #[.string ⟨#[116,101,115,116]⟩,.string ⟨#[108,105,118,101]⟩,.string ⟨#[84,101,115,116]⟩] 9)).cell? ⟨wb.heap.size,k,none⟩=some (.string (R.str (Ru.env (k+1)))):=(z8 (q1q [(.cells #[.string ⟨#[116,101,115,116]⟩,.string ⟨#[108,105,118,101]⟩,.string ⟨#[84,101,115,116]⟩] 9)] wb 0 _ rfl)).trans (zs3 k (by omega))
    have GA:=hid (zJ wb (.cells #[.string ⟨#[116,101,115,116]⟩,.string ⟨#[108,105,118,101]⟩,.string ⟨#[84,101,115,116]⟩] 9) none)
    have e8:R.str t0++(⟨#[88,45,69,110,118,58,32,32]⟩:ByteArray)++R.str (Ru.env (k+1))++⟨#[32,13,10]⟩=R.str (t0++t1):=by
     rw[aj.o,if_neg (by omega)]
     refine(q8q (q8q (q8q rfl (y:=Ru.eL) rfl) rfl) (y:=[32]++Ru.c) rfl).trans ?_
     simp only[xY]
    have k1:(⟨#[88,45,69,110,118,58,32,32]⟩:ByteArray).size=8:=rfl
    have z1:(R.str t0).size<=36:=by rw[R.str_size];exact aG
    have z2:(R.str (Ru.env (k+1))).size<=4:=by rw[R.str_size];exact aI
    have z3:(R.str t0++(⟨#[88,45,69,110,118,58,32,32]⟩:ByteArray)).size<=50:=by rw[ByteArray.size_append];omega
    have z4:(R.str t0++(⟨#[88,45,69,110,118,58,32,32]⟩:ByteArray)++R.str (Ru.env (k+1))).size<=60:=by rw[ByteArray.size_append];omega
    have ab:=hid e8
    clear e8 aI k1 h0 aj
    go_wp2_with fail
    go_meet
    case rel=>exact⟨by rw[<-ab.o],GA⟩
  case rest=>
   obtain⟨rfl,GC⟩:=hcut
   have ag:=hid (zB af.o GC.o (by simp))
   have GD:=hid (zA GB.o GC.o)
   have aF:(t0++t1).length<=60:=by
    rw[zW,aj.o]
    have:=q69q ae
    split
    ·simp only[qi];omega
    ·simp only[zW]
     have:Ru.eL.length=8:=rfl
     have:Ru.c.length=2:=rfl
     simp only[zm,qi];omega
   clear x0 x1 x2 x3 x4 af GC GB aG aj
   generalize wc=wb at*
   have x0:wb.cell? ⟨w.heap.size,0,none⟩=some (.int .i64 q.h):=z8 ag.o
   have x1:wb.cell? ⟨w.heap.size,1,none⟩=some (.int .i64 q.p):=z8 ag.o
   have x2:wb.cell? ⟨w.heap.size,2,none⟩=some (.int .i64 q.e):=z8 ag.o
   have x3:wb.cell? ⟨w.heap.size,3,none⟩=some (.int .i64 q.d):=z8 ag.o
   have x4:wb.cell? ⟨w.heap.size,4,none⟩=some (.int .i64 q.b):=z8 ag.o
   have a1:=zE ag.o
   go_wp2_with fail
   refine(aA.o _).mono ?_
   rintro e W1 ⟨rfl,aa⟩
   obtain rfl:=aa.symm
   clear aA aa
   go_upto_if 32 with fail
   go_cut [3] (fun sv wz=>sv = .string (R.str (t0++t1++t2))/\wz=wb)
   case first=>
    by_cases h0:ad=1
    ·have av:((ad:Nat):Int)=1:=by omega
     have ab:Y (R.str (t0++t1)++(⟨#[120,45,105,100,58,32,49,13,10,88,45,73,68,58,32,50,13,10]⟩:ByteArray)=R.str (t0++t1++t2)):=by
      show _=_
      rw[al.o,if_pos h0]
      exact q2q _ Ru.ids
     have z1:(R.str (t0++t1)).size<=60:=by rw[R.str_size];exact aF
     generalize t0++t1=t9 at*
     clear h0
     go_wp2_with fail
     go_meet
     case rel=>exact⟨by rw[<-ab.o],rfl⟩
    ·have av:¬((ad:Nat):Int)=1:=by omega
     have ab:Y (t0++t1++t2=t0++t1):=by show _=_;rw[al.o,if_neg h0,xn]
     clear h0
     go_wp2_with fail
     go_meet
     case rel=>exact⟨by rw[ab.o],rfl⟩
   case rest=>
    obtain⟨rfl,rfl⟩:=hcut
    have aM:(t0++t1++t2).length<=80:=by
     rw[zW,al.o]
     have:Ru.ids.length=18:=rfl
     split
     ·omega
     ·simp only[qi];omega
    have ar:Y (tx=(t0++t1++t2)++t3):=by show _=_;rw[aE.o];simp only[xY]
    clear aF al aE
    generalize t0++t1++t2=t9 at*
    have aw:=hid (zA HG.o GD.o)
    clear HG GD
    go_wp2_with fail
    refine(aC.o _).mono ?_
    rintro e W1 ⟨rfl,aa⟩
    obtain rfl:=aa.symm
    clear aC aa x0 x1 x2 x3 x4 ag
    generalize wc=wb at*
    have z1:(R.str t9).size<=80:=by rw[R.str_size];exact aM
    by_cases h0:an=0
    ·have av:((an:Nat):Int)=0:=by omega
     have ab:Y (R.str t9++(⟨#[13,10]⟩:ByteArray)=R.str tx):=by
      show _=_
      rw[ar.o,au.o,if_pos h0]
      exact q2q _ Ru.c
     clear h0
     go_wp2
     go_ret
     exact⟨by rw[<-ab.o];rfl,aw.o⟩
    ·have av:¬((an:Nat):Int)=0:=by omega
     obtain⟨B,hB⟩:∃l,l=t9++(Ru.cL++(R.dec an++(Ru.c++Ru.c))):=⟨_,rfl⟩
     have ab:Y (R.str t9++(⟨#[99,111,110,116,101,110,116,45,108,101,110,103,116,104,58,32,48]⟩:ByteArray)++R.str (R.dec an)++⟨#[13,10,13,10]⟩=R.str B):=by
      show _=_
      rw[hB]
      exact(q8q (q8q (q8q rfl (y:=Ru.cL) rfl) rfl) (y:=Ru.c++Ru.c) rfl).trans (by congr 1;simp only[xY])
     have aL:Y (tx=B++List.replicate an 10):=by
      show _=_
      rw[ar.o,au.o,if_neg h0,hB]
      simp only[xY]
     have aH:(R.dec an).length<=2:=R.dec_len an 1 (by omega)
     have aV:B.length<=110:=by
      rw[hB]
      simp only[zW]
      have:Ru.cL.length=17:=rfl
      have:Ru.c.length=2:=rfl
      omega
     have k1:(⟨#[99,111,110,116,101,110,116,45,108,101,110,103,116,104,58,32,48]⟩:ByteArray).size=17:=rfl
     have z2:(R.str (R.dec an)).size<=2:=by rw[R.str_size];exact aH
     have z3:(R.str t9++(⟨#[99,111,110,116,101,110,116,45,108,101,110,103,116,104,58,32,48]⟩:ByteArray)).size<=100:=by rw[ByteArray.size_append];omega
     have z4:(R.str t9++(⟨#[99,111,110,116,101,110,116,45,108,101,110,103,116,104,58,32,48]⟩:ByteArray)++R.str (R.dec an)).size<=110:=by rw[ByteArray.size_append];omega
     have ay:=hid (az.o an wb (by omega))
     clear az h0 au ar hB k1 aH
     go_wp2_with fail
     refine ay.o.mono ?_
     rintro e W1 ⟨rfl,aa⟩
     obtain rfl:=aa.symm
     clear ay aa
     go_wp2_with fail
     rw[ab.o]
     clear ab z1 z2 z3 z4
     go_loopw [3,6] (fun sv iv wr=>∃i:Nat,i<=an/\iv = .int .i64 i/\sv = .string (R.str (B++List.replicate i 10))/\wr=wb) (fun _ iv _=>an - (intOf iv).toNat)
     case atStart=>exact⟨0,zl _,rfl,by rw[List.replicate_zero,xn],rfl⟩
     case round=>
      obtain⟨i,aX,rfl,rfl,rfl⟩:=hrel
      by_cases hi:i<an
      ·have aW:(i:Int)<an:=by omega
       have z1:(R.str (B++List.replicate i 10)).size<=160:=by rw[R.str_size,zW,List.length_replicate];omega
       have aK:Y (R.str (B++List.replicate i 10)++(⟨#[10]⟩:ByteArray)=R.str (B++List.replicate (i+1) 10)):=by
        refine(q2q _ [10]).trans ?_
        rw[xY,List.replicate_succ']
       go_wp2_with fail
       rw[aK.o]
       go_roundw
       case rel=>exact⟨i+1,by omega,by go_num,rfl,by first | rfl | trivial⟩
       case measure=>simp[intOf];omega
      ·obtain rfl:i=an:=by omega
       go_wp2
       go_ret
       exact⟨by rw[aL.o];rfl,aw.o⟩
theorem six {k:Nat}(h:k<6):k=0\/k=1\/k=2\/k=3\/k=4\/k=5:=by omega
theorem q109q {p:Nat}(h:p<6):decide (Ru.path p=[47,120,47,121])=decide (p=2)/\decide (Ru.path p=[47,120,121])=decide (p=3):=by
 rcases six h with rfl | rfl | rfl | rfl | rfl | rfl <;> exact⟨rfl,rfl⟩
theorem q77q (q:Aw)(hq:q.Ok)(w:World):Calls Tryz.prog 30 #[.agg #[.int .i64 q.h,.int .i64 q.p,.int .i64 q.e,.int .i64 q.d,.int .i64 q.b]] w fun e w'=>e = .returned (.string (R.str (Ru.to q.ak)))/\w.grownBy w' none:=by
 have ok:=q.ak_ok
 have HB:Y (q.At (w.alloc (.cells #[.int .i64 q.h,.int .i64 q.p,.int .i64 q.e,.int .i64 q.d,.int .i64 q.b] 57)) w.heap.size):=q1q [(.cells #[.int .i64 q.h,.int .i64 q.p,.int .i64 q.e,.int .i64 q.d,.int .i64 q.b] 57)] w 0 _ rfl
 have HG:=hid (zJ w (.cells #[.int .i64 q.h,.int .i64 q.p,.int .i64 q.e,.int .i64 q.d,.int .i64 q.b] 57) none)
 have av:Y (∀W,Calls Tryz.prog 31 #[.agg #[.int .i64 q.h,.int .i64 q.p,.int .i64 q.e,.int .i64 q.d,.int .i64 q.b]] W fun e w'=>e = .returned (.string (R.str (Ru.path q.ak.p)))/\W.grownBy w' none):=fun W=>q7q q hq W
 have au:Y (∀W,Calls Tryz.prog 49 #[.agg #[.int .i64 q.h,.int .i64 q.p,.int .i64 q.e,.int .i64 q.d,.int .i64 q.b]] W fun e w'=>e = .returned (.string (R.str (Ru.host q.ak.h)))/\W.grownBy w' none):=fun W=>q54q q hq W
 have al:Y (∀W,Calls Tryz.prog 21 #[.int .i64 q.e,.int .i64 4] W fun e w'=>e = .returned (.int .i64 (q.ak.e:Nat))/\w'=W):=fun W=>q3q q.e 4 W hq.e (by decide)
 have aj:Y (∀W,Calls Tryz.prog 21 #[.int .i64 q.d,.int .i64 2] W fun e w'=>e = .returned (.int .i64 (q.ak.d:Nat))/\w'=W):=fun W=>q3q q.d 2 W hq.d (by decide)
 have ab:Y (Ru.to q.ak=Ru.goes q.ak.h q.ak.p q.ak.e q.ak.d):=rfl
 generalize az:q.ak=a at*
 clear az hq
 obtain⟨ah,ap,ae,ad,an⟩:=a
 obtain⟨ay,ar,aA,aB,aC⟩:=ok
 simp only at ay ar aA aB aC
 obtain⟨aw,ax⟩:=q109q ar
 generalize Ru.to ⟨ah,ap,ae,ad,an⟩=tt at*
 go_enter Tryz.func30,Tryz.ntmps30
 go_upto_region 1 with fail
 generalize w.alloc (.cells #[.int .i64 q.h,.int .i64 q.p,.int .i64 q.e,.int .i64 q.d,.int .i64 q.b] 57)=wa at*
 have x0:wa.cell? ⟨w.heap.size,0,none⟩=some (.int .i64 q.h):=z8 HB.o
 have x1:wa.cell? ⟨w.heap.size,1,none⟩=some (.int .i64 q.p):=z8 HB.o
 have x2:wa.cell? ⟨w.heap.size,2,none⟩=some (.int .i64 q.e):=z8 HB.o
 have x3:wa.cell? ⟨w.heap.size,3,none⟩=some (.int .i64 q.d):=z8 HB.o
 have x4:wa.cell? ⟨w.heap.size,4,none⟩=some (.int .i64 q.b):=z8 HB.o
 have am:=zE HB.o
 go_wp2_with fail
 refine(av.o _).mono ?_
 rintro e w1 ⟨rfl,g1⟩
 have ag:=hid (zB HB.o g1 (by simp))
 have G1:=hid (zA HG.o g1)
 clear av HB HG g1 x0 x1 x2 x3 x4 am
 have x0:w1.cell? ⟨w.heap.size,0,none⟩=some (.int .i64 q.h):=z8 ag.o
 have x1:w1.cell? ⟨w.heap.size,1,none⟩=some (.int .i64 q.p):=z8 ag.o
 have x2:w1.cell? ⟨w.heap.size,2,none⟩=some (.int .i64 q.e):=z8 ag.o
 have x3:w1.cell? ⟨w.heap.size,3,none⟩=some (.int .i64 q.d):=z8 ag.o
 have x4:w1.cell? ⟨w.heap.size,4,none⟩=some (.int .i64 q.b):=z8 ag.o
 have am:=zE ag.o
 go_upto_region 2 with fail
 go_cut [4] (fun bv wz=>bv = .bool (Ru.isX ap)/\wz=w1)
 case first=>
  rcases six ar with rfl | rfl | rfl | rfl | rfl | rfl
  ·rw[show R.str (Ru.path 0)=⟨#[47]⟩ from rfl]
   go_wp2_with fail
   go_meet
   case rel=>exact⟨by first | rfl | exact congrArg Value.bool (by decide +kernel),rfl⟩
  ·rw[show R.str (Ru.path 1)=⟨#[47,120]⟩ from rfl]
   go_wp2_with fail
   go_meet
   case rel=>exact⟨by first | rfl | exact congrArg Value.bool (by decide +kernel),rfl⟩
  ·rw[show R.str (Ru.path 2)=⟨#[47,120,47,121]⟩ from rfl]
   go_wp2_with fail
   go_meet
   case rel=>exact⟨by first | rfl | exact congrArg Value.bool (by decide +kernel),rfl⟩
  ·rw[show R.str (Ru.path 3)=⟨#[47,120,121]⟩ from rfl]
   go_wp2_with fail
   go_meet
   case rel=>exact⟨by first | rfl | exact congrArg Value.bool (by decide +kernel),rfl⟩
  ·rw[show R.str (Ru.path 4)=⟨#[47,121,63,47,120]⟩ from rfl]
   go_wp2_with fail
   go_meet
   case rel=>exact⟨by first | rfl | exact congrArg Value.bool (by decide +kernel),rfl⟩
  ·rw[show R.str (Ru.path 5)=⟨#[47,120,63,113,61,49]⟩ from rfl]
   go_wp2_with fail
   go_meet
   case rel=>exact⟨by first | rfl | exact congrArg Value.bool (by decide +kernel),rfl⟩
 case rest=>
  obtain⟨rfl,rfl⟩:=hcut
  generalize wc=w1 at*
  have aa:Y (∀h,Ru.goes h ap ae ad=if h=0\/h=4 then (if Ru.isX ap=true/\ae=1 then Ru.sTest else if Ru.isX ap=true/\ad=1 then Ru.sIdT else if ap=2 then Ru.sDeep else Ru.sRest) else if h=1 then (if Ru.isX ap=true then Ru.sB else []) else if h=2 then (if Ru.isX ap=true then Ru.sXb else []) else (if ap=3 then Ru.sStar else [])):=fun h=>rfl
  have q2:=(jd (Ru.path ap) [47,120,47,121]).trans aw
  have q3:=(jd (Ru.path ap) [47,120,121]).trans ax
  clear aw ax
  generalize Ru.isX ap=bx at*
  generalize Ru.path ap=pa at*
  go_wp2_with fail
  refine(au.o _).mono ?_
  rintro e w2 ⟨rfl,g2⟩
  have ai:=hid (zB ag.o g2 (by simp))
  have G2:=hid (zA G1.o g2)
  clear au ag G1 g2 x0 x1 x2 x3 x4 am
  have x0:w2.cell? ⟨w.heap.size,0,none⟩=some (.int .i64 q.h):=z8 ai.o
  have x1:w2.cell? ⟨w.heap.size,1,none⟩=some (.int .i64 q.p):=z8 ai.o
  have x2:w2.cell? ⟨w.heap.size,2,none⟩=some (.int .i64 q.e):=z8 ai.o
  have x3:w2.cell? ⟨w.heap.size,3,none⟩=some (.int .i64 q.d):=z8 ai.o
  have x4:w2.cell? ⟨w.heap.size,4,none⟩=some (.int .i64 q.b):=z8 ai.o
  have am:=zE ai.o
  clear ai
  rcases six ay with rfl | rfl | rfl | rfl | rfl | rfl
  ·rw[show R.str (Ru.host 0)=⟨#[97,46,98]⟩ from rfl]
   cases bx
   ·by_cases h2:ap=2
    ·rw[decide_eq_true h2] at q2
     go_wp2
     go_ret
     exact⟨by rw[ab.o,aa.o,if_pos (by decide),if_neg (fun c=>Bool.false_ne_true c.1),if_neg (fun c=>Bool.false_ne_true c.1),if_pos h2];rfl,G2.o⟩
    ·rw[decide_eq_false h2] at q2
     go_wp2
     go_ret
     exact⟨by rw[ab.o,aa.o,if_pos (by decide),if_neg (fun c=>Bool.false_ne_true c.1),if_neg (fun c=>Bool.false_ne_true c.1),if_neg h2];rfl,G2.o⟩
   ·go_wp2_with fail
    refine(al.o _).mono ?_
    rintro e W1 ⟨rfl,af⟩
    obtain rfl:=af.symm
    clear al af
    by_cases h4:ae=1
    ·have ao:((ae:Nat):Int)=1:=by omega
     go_wp2
     go_ret
     exact⟨by rw[ab.o,aa.o,if_pos (by decide),if_pos ⟨trivial,h4⟩];rfl,G2.o⟩
    ·have ao:¬((ae:Nat):Int)=1:=by omega
     go_wp2_with fail
     refine(aj.o _).mono ?_
     rintro e W1 ⟨rfl,af⟩
     obtain rfl:=af.symm
     clear aj af
     by_cases h5:ad=1
     ·have aq:((ad:Nat):Int)=1:=by omega
      go_wp2
      go_ret
      exact⟨by rw[ab.o,aa.o,if_pos (by decide),if_neg (fun c=>h4 c.2),if_pos ⟨trivial,h5⟩];rfl,G2.o⟩
     ·have aq:¬((ad:Nat):Int)=1:=by omega
      by_cases h2:ap=2
      ·rw[decide_eq_true h2] at q2
       go_wp2
       go_ret
       exact⟨by rw[ab.o,aa.o,if_pos (by decide),if_neg (fun c=>h4 c.2),if_neg (fun c=>h5 c.2),if_pos h2];rfl,G2.o⟩
      ·rw[decide_eq_false h2] at q2
       go_wp2
       go_ret
       exact⟨by rw[ab.o,aa.o,if_pos (by decide),if_neg (fun c=>h4 c.2),if_neg (fun c=>h5 c.2),if_neg h2];rfl,G2.o⟩
  ·rw[show R.str (Ru.host 1)=⟨#[120,46,98]⟩ from rfl]
   cases bx
   ·go_wp2
    go_ret
    exact⟨by rw[ab.o,aa.o,if_neg (by decide),if_pos rfl,if_neg Bool.false_ne_true];rfl,G2.o⟩
   ·go_wp2
    go_ret
    exact⟨by rw[ab.o,aa.o,if_neg (by decide),if_pos rfl,if_pos trivial];rfl,G2.o⟩
  ·rw[show R.str (Ru.host 2)=⟨#[121,46,120,46,98]⟩ from rfl]
   cases bx
   ·go_wp2
    go_ret
    exact⟨by rw[ab.o,aa.o,if_neg (by decide),if_neg (by decide),if_pos rfl,if_neg Bool.false_ne_true];rfl,G2.o⟩
   ·go_wp2
    go_ret
    exact⟨by rw[ab.o,aa.o,if_neg (by decide),if_neg (by decide),if_pos rfl,if_pos trivial];rfl,G2.o⟩
  ·rw[show R.str (Ru.host 3)=⟨#[98]⟩ from rfl]
   by_cases h3:ap=3
   ·rw[decide_eq_true h3] at q3
    go_wp2
    go_ret
    exact⟨by rw[ab.o,aa.o,if_neg (by decide),if_neg (by decide),if_neg (by decide),if_pos h3];rfl,G2.o⟩
   ·rw[decide_eq_false h3] at q3
    go_wp2
    go_ret
    exact⟨by rw[ab.o,aa.o,if_neg (by decide),if_neg (by decide),if_neg (by decide),if_neg h3];rfl,G2.o⟩
  ·rw[show R.str (Ru.host 4)=⟨#[65,46,66,58,56,49]⟩ from rfl]
   cases bx
   ·by_cases h2:ap=2
    ·rw[decide_eq_true h2] at q2
     go_wp2
     go_ret
     exact⟨by rw[ab.o,aa.o,if_pos (by decide),if_neg (fun c=>Bool.false_ne_true c.1),if_neg (fun c=>Bool.false_ne_true c.1),if_pos h2];rfl,G2.o⟩
    ·rw[decide_eq_false h2] at q2
     go_wp2
     go_ret
     exact⟨by rw[ab.o,aa.o,if_pos (by decide),if_neg (fun c=>Bool.false_ne_true c.1),if_neg (fun c=>Bool.false_ne_true c.1),if_neg h2];rfl,G2.o⟩
   ·go_wp2_with fail
    refine(al.o _).mono ?_
    rintro e W1 ⟨rfl,af⟩
    obtain rfl:=af.symm
    clear al af
    by_cases h4:ae=1
    ·have ao:((ae:Nat):Int)=1:=by omega
     go_wp2
     go_ret
     exact⟨by rw[ab.o,aa.o,if_pos (by decide),if_pos ⟨trivial,h4⟩];rfl,G2.o⟩
    ·have ao:¬((ae:Nat):Int)=1:=by omega
     go_wp2_with fail
     refine(aj.o _).mono ?_
     rintro e W1 ⟨rfl,af⟩
     obtain rfl:=af.symm
     clear aj af
     by_cases h5:ad=1
     ·have aq:((ad:Nat):Int)=1:=by omega
      go_wp2
      go_ret
      exact⟨by rw[ab.o,aa.o,if_pos (by decide),if_neg (fun c=>h4 c.2),if_pos ⟨trivial,h5⟩];rfl,G2.o⟩
     ·have aq:¬((ad:Nat):Int)=1:=by omega
      by_cases h2:ap=2
      ·rw[decide_eq_true h2] at q2
       go_wp2
       go_ret
       exact⟨by rw[ab.o,aa.o,if_pos (by decide),if_neg (fun c=>h4 c.2),if_neg (fun c=>h5 c.2),if_pos h2];rfl,G2.o⟩
      ·rw[decide_eq_false h2] at q2
       go_wp2
       go_ret
       exact⟨by rw[ab.o,aa.o,if_pos (by decide),if_neg (fun c=>h4 c.2),if_neg (fun c=>h5 c.2),if_neg h2];rfl,G2.o⟩
  ·rw[show R.str (Ru.host 5)=⟨#[99]⟩ from rfl]
   by_cases h3:ap=3
   ·rw[decide_eq_true h3] at q3
    go_wp2
    go_ret
    exact⟨by rw[ab.o,aa.o,if_neg (by decide),if_neg (by decide),if_neg (by decide),if_pos h3];rfl,G2.o⟩
   ·rw[decide_eq_false h3] at q3
    go_wp2
    go_ret
    exact⟨by rw[ab.o,aa.o,if_neg (by decide),if_neg (by decide),if_neg (by decide),if_neg h3];rfl,G2.o⟩
theorem q53q {P:Program}{w:World}(base:Nat)(t ty e:TypeId)(i:TypeInfo)(ab:Nat)(ht:P.underlying t=some (.slice e))(hi:P.info? e=some i)(v:Value)(n:Nat)(xs:List Value)(aa:w.ownsRow base e ab v n xs)(a:Option Addr)(c:Nat) :
  (Builtin.append_ #[t,t] ty #[v,.slice a 0 c]).run P w = .ok v w:=by
 rcases aa.2 with ⟨rfl,rfl⟩ | ⟨g,cap,cur,rfl,_,_,hnc,_⟩
 ·cases a <;> simp[Builtin.append_,run_underlying ht,sizeOf,typeInfo,hi,Builtin.lenOf,Builtin.firstCells,loadCells,loadCellsFrom]
 ·cases a <;> simp[Builtin.append_,run_underlying ht,sizeOf,typeInfo,hi,Builtin.lenOf,Builtin.firstCells,hnc,storeCells,loadCells,loadCellsFrom]
theorem q12q {P:Program}{w:World}{aa:Array Oper}{rest:List Oper}{o:Oper}{a:Act}{Q:Exit->Act->World->Prop}(ae:o.guard=none)(s x:Operand)(t:TypeId)
  (ho:o.op = .call { callee:=.builtin .append,args:=#[s,x],argTypes:=#[t,t] })
  (base:Nat) (e:TypeId) (i:TypeInfo) (ab:Nat) (ht:P.underlying t=some (.slice e)) (hi:P.info? e=some i)
  (v:Value) (n:Nat) (xs:List Value) (hs:a.eval s=v) (af:w.ownsRow base e ab v n xs) (ad:Option Addr) (c:Nat) (hx:a.eval x = .slice ad 0 c)
  (h:wpList P aa Q rest (a.put o.dst v) w):wpList P aa Q (o :: rest) a w:=by
 refine wpList_plain ae fun K hK=>?_
 have ag:=q53q (P:=P) (w:=w) base t o.type e i ab ht hi v n xs af ad c
 unfold Oper.wp
 simp[execOp,ho,resolve,invoke,builtin,hs,hx,ag,Result.andThen]
 exact hK _ _ h
def Qs (w:World)(ao:Option Addr)(qs:List Aw):Prop:=∀i (h:i<qs.length),∃b o,ao=some ⟨b,o,none⟩/\b<w.heap.size/\(∀j v,qs[i].cells[j]?=some v->w.cell? ⟨b,o+i*5+j,none⟩=some v)/\qs[i].Ok
structure Ru.I (w0 w2 wr:World) (yb:Nat) (tv:Value) (ps0 ps:List (Option Nat)) (y:Yd) (lv:Value) (ls:List Ev):Prop where
 ky:KY w0 wr yb tv ps y
 mv:YMv w2 wr yb ps0 ps
 len:ps.length=1
 row:wr.ownsRow w2.heap.size 44 3 lv ls.length (evCells ls)
 ap:∀k,lv.ownBlock=some k->¬YF wr yb ps k
 le:w0.heap.size<=w2.heap.size
theorem Ru.I.move {w0 w2 wr w':World}{yb:Nat}{tv lv:Value}{aa ps ps':List (Option Nat)}{y y':Yd}{ls:List Ev}(h:Ru.I w0 w2 wr yb tv aa ps y lv ls)(k:KY w0 w' yb tv ps' y')(m:YMv wr w' yb ps ps')(hl:ps'.length=ps.length):Ru.I w0 w2 w' yb tv aa ps' y' lv ls where
 ky:=k
 mv:=h.mv.trans m
 len:=hl.trans h.len
 row:=xA h.row (fun k hk=>m.turn.block k (qh h.row k hk).2 (h.ap k hk))
 ap:=fun k hk hF=>by
  rcases m.foot k hF with q | q
  ·exact h.ap k hk q
  ·have:=(qh h.row k hk).2;omega
 le:=h.le
theorem Ru.I.keep {w0 w2 wr w':World}{yb:Nat}{tv lv:Value}{aa ps:List (Option Nat)}{y:Yd}{ls:List Ev}(h:Ru.I w0 w2 wr yb tv aa ps y lv ls)(g:wr.grownBy w' none):Ru.I w0 w2 w' yb tv aa ps y lv ls:=by
 obtain⟨k,m⟩:=h.ky.grown g
 exact h.move k m rfl
theorem Ru.I.more {w0 w2 wr w':World}{yb g aa:Nat}{tv lv:Value}{ad ps:List (Option Nat)}{y:Yd}{ls es:List Ev}(h:Ru.I w0 w2 wr yb tv ad ps y lv ls)(ho:w'.ownsRow w2.heap.size 44 3 (.slice (some ⟨g,0,none⟩) (ls.length+es.length) aa) (ls.length+es.length) (evCells ls++evCells es))(hg:wr.grownBy w' lv.ownBlock)(ae:lv.ownBlock=some g\/g=wr.heap.size):Ru.I w0 w2 w' yb tv ad ps y (.slice (some ⟨g,0,none⟩) (ls.length+es.length) aa) (ls++es):=by
 have ab:∀k,lv.ownBlock=some k->w2.heap.size<=k:=fun k hk=>(qh h.row k hk).1
 have hk:∀k,YF wr yb ps k->w'.heap[k]?=wr.heap[k]?:=fun k hF=>hg.block k (h.ky.inv.lt h.ky.own hF) (fun e=>h.ap k e.symm hF)
 obtain⟨i1,f1⟩:=h.ky.inv.keep hg.size hk
 exact {
  ky:=⟨i1,x9 h.ky.gr hg (fun k hk=>zp h.le (ab k hk)),h.ky.own,h.ky.ok⟩
  mv:=⟨⟨hg.os.trans h.mv.turn.os,hg.tape.trans h.mv.turn.tape,hg.output.trans h.mv.turn.output,zp h.mv.turn.size hg.size,fun k hk2 hn2=>(hg.block k (yU hk2 h.mv.turn.size) (fun e=>by have:=ab k e.symm;omega)).trans (h.mv.turn.block k hk2 hn2)⟩,fun k hF=>h.mv.foot k (f1 k hF)⟩
  len:=h.len
  row:=by
   have e:evCells (ls++es)=evCells ls++evCells es:=by unfold evCells;rw[List.flatMap_append]
   rw[e,zW]
   exact ho
  ap:=fun k hk9 hF=>by
   have e9:g=k:=qk hk9
   subst e9
   have h9:=f1 _ hF
   rcases ae with q | q
   ·exact h.ap _ q h9
   ·have:=h.ky.inv.lt h.ky.own h9;omega
  le:=h.le }
theorem Ru.I.start {w0 w2:World}{yb cb:Nat}{tv:Value}{y:Yd}(h:KY w0 w2 yb tv [some cb] y):Ru.I w0 w2 w2 yb tv [some cb] [some cb] y (.slice none 0 0) []:=
 ⟨h,YMv.refl _ _ _,rfl,xS _ _ _ _,fun k hk=>(by cases hk),h.gr.size⟩
def Ru.Y (l:List UInt8):Yd:=(Ru.y [] Rq.zero).fedP Ru.hs 0 l
theorem q82q (a b:List UInt8):Ru.Y (a++b)=((Ru.Y a).told.fedP Ru.hs 0 b).plus (Ru.Y a).sent:=by
 unfold Ru.Y
 rw[zeB,q119q]
theorem zsW {a b:List UInt8}{se:List Ev}(h:Ru.Y (a++b)=Ru.y se Rq.zero):(Ru.Y a).told.isOpen 1=true:=by
 have e:(Ru.Y a).told.isOpen 1=(Ru.Y a).isOpen (0+1:Nat):=rfl
 rw[e]
 cases ho:(Ru.Y a).isOpen (0+1:Nat) with
 | true=>rfl
 | false=>
  have h1:Ru.Y (a++b)=Ru.Y a:=by
   unfold Ru.Y at ho ⊢
   rw[zeB,zjX _ _ _ _ ho]
  rw[h1] at h
  rw[h] at ho
  cases ho
theorem q63q (hs:List P.Hst)(m:Nat):∀(l:List UInt8) (y:Yd),(y.fedP hs m l).draws.length<=y.draws.length
 | [],_=>zZ _
 | c :: l,y=>by
  have h1:=q63q hs m l (y.stepP hs m c)
  have h2:(y.stepP hs m c).draws.length<=y.draws.length:=by
   unfold Yd.stepP
   split
   ·exact zgI hs y m c
   ·exact zZ _
  exact zp h1 h2
theorem q120q (a:List UInt8):(Ru.Y a).told.draws.length=0:=by
 have:=q63q Ru.hs 0 a (Ru.y [] Rq.zero)
 exact Nat.le_zero.1 this
theorem q10q:VHs Ru.hs/\xG Ru.t=qE Ru.hs:=⟨(zkA (by rw[q85q])).1,(zkA (by rw[q85q])).2.1⟩
theorem zs1 (l:List UInt8):∀w,(convert 9 32 (.string (R.str l))).run Tryz.prog w = .ok (.slice (some ⟨w.heap.size,0,none⟩) l.length (grownCap w l.length 0 5)) (Lib.bytesWorld w 5 (R.str l)):=fun w=>by
 have:=Lib.run_convert_string_bytes (P:=Tryz.prog) (u:=.string) w 9 32 5 (R.str l) (by kernel_rfl) (by kernel_rfl) (by kernel_rfl)
 rw[R.str_size] at this;exact this
theorem zs4 {w0 w2 wr:World}(G:G3 w0){yb:Nat}{tv lv:Value}{aa ps:List (Option Nat)}{ls:List Ev}{y2:Yd}(K2:KY w0 w2 yb tv aa y2)(T2:TabAt w2 tv Ru.hs)(p l:List UInt8)(h:Ru.I w0 w2 wr yb tv aa ps (Ru.Y p).told lv ls)(ho:(Ru.Y p).told.isOpen 1=true)(ab:l.length<=80000000) :
  Calls Tryz.prog 26 #[.pointer (some ⟨yb,0,none⟩),.int .i64 1,(.slice (some ⟨wr.heap.size,0,none⟩) l.length (grownCap wr l.length 0 5))] (Lib.bytesWorld wr 5 (R.str l)) fun e w'=>e = .returned (.int .i64 0)/\∃ps',Y (Ru.I w0 w2 w' yb tv aa ps' ((Ru.Y p).told.fedP Ru.hs 0 l) lv ls):=by
 obtain⟨i1,m1,r1,a1⟩:=ze5 h.ky.inv h.ky.own l
 have g1:=xk wr 5 (R.str l)
 have g:=zA h.ky.gr g1
 have hI:=h.keep g1
 refine(zkD (m:=0) i1 (T2.moved hI.mv K2.inv K2.own) q90q q10q.1.ok h.ky.ok ho r1 a1 ab (zl _) (by rw[q120q];exact zl _) (by have:=h.len;omega) g.size (G.grown g).glob (G.grown g).ge (G.grown g).gt G.low).mono ?_
 rintro e w' ⟨q1,ps',q2⟩
 exact⟨q1,ps',hI.move (hI.ky.move q2.mv q2.inv h.ky.own q2.ok) q2.mv q2.len⟩
theorem q101q {w0 w2 wr:World}{yb:Nat}{tv lv:Value}{aa ps:List (Option Nat)}{ls:List Ev}{y:Yd}(h:Ru.I w0 w2 wr yb tv aa ps y lv ls) :
  Calls Tryz.prog 28 #[.pointer (some ⟨yb,0,none⟩)] wr fun e w'=>∃a k,e = .returned (.slice a y.sent.length k)/\Y (Ru.I w0 w2 w' yb tv aa ps y.told lv ls)/\Y (w'.ownsRow 0 44 3 (.slice a y.sent.length k) y.sent.length (evCells y.sent)):=by
 refine(zhU h.ky.inv h.ky.own).mono ?_
 rintro e w' ⟨v,rfl,q1,q2,q3,q4⟩
 obtain⟨a,k,rfl⟩:=zP q3
 exact⟨a,k,rfl,h.move (h.ky.move q2 q1 h.ky.own h.ky.ok.told) q2 rfl,qK q3 (zl _)⟩
def Ed.piece (n:Nat)(v:List UInt8):List UInt8:=Ed.nm n++[58,32]++v++[13,10]
def Ed.step (dr:Nat->Bool)(se:Nat->List UInt8)(s:List UInt8×(Nat->Bool)×Nat)(n:Nat):List UInt8×(Nat->Bool)×Nat:=
 if dr n then (s.1,s.2.1,s.2.2+1)
 else if se n=[] then (s.1++Ed.piece n (R.dec s.2.2),s.2.1,s.2.2+1)
 else if s.2.1 n then (s.1,s.2.1,s.2.2+1)
 else (s.1++Ed.piece n (se n),fun x=>if x=n then true else s.2.1 x,s.2.2+1)
def Ed.run (dr:Nat->Bool)(se:Nat->List UInt8)(ns:List Nat):List UInt8×(Nat->Bool)×Nat:=ns.foldl (Ed.step dr se) ([],(fun _=>false),0)
def Ed.F (ss:List Hd)(ds:List (List UInt8))(l:List Hd):List Hd:=ss.foldl (fun l s=>Rq.withK s l false) (Rq.dropK ds l)
structure Ed.Inv (dr:Nat->Bool) (se:Nat->List UInt8) (ss:List Hd) (ds:List (List UInt8)) (pre:List Nat) (s:List UInt8×(Nat->Bool)×Nat):Prop where
 cnt:s.2.2=pre.length
 txt:s.1=Rq.lines (Ed.F ss ds (Ed.hds 0 pre))
 has:∀n,n<3->se n≠[]->s.2.1 n=Rq.has1 (Ed.nm n,se n) (Ed.hds 0 pre)
structure Ed.Fit (dr:Nat->Bool) (se:Nat->List UInt8) (ss:List Hd) (ds:List (List UInt8)):Prop where
 hdr:∀n,n<3->(dr n=true↔Ed.nm n∈ds)
 hse:∀n,n<3->dr n=false->se n≠[]->(Ed.nm n,se n)∈ss
 no:∀n,n<3->se n=[]->∀s∈ss,Ed.nm n≠s.1
 pw:(ss.map Prod.fst).Pairwise (·≠·)
 off:∀s∈ss,s.1 ∉ ds
 un:∀n,n<3->dr n=true->se n=[]
def Ed.end (se:Nat->List UInt8)(dn:Nat->Bool):Nat->List UInt8
 | 0=>[]
 | n+1=>Ed.end se dn n++(if (decide (se n≠[]) && !dn n)=true then Ed.piece n (se n) else [])
def Ed.inb:List UInt8:=[71,69,84,32,47,111,108,100,47,49,63,47,111,108,100,32,72,84,84,80,47,49,46,49,13,10,104,111,115,116,58,32,104,13,10]
def Ed.y0:Yd:=Yd.new.opened
end Go.Proofs.YtfocdefchbnkpaaGreatDoor
