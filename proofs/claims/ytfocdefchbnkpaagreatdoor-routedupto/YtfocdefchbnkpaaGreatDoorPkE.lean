/- Packing, as the program does it: a rule. -/
import Derived.Test.YtfocdefchbnkpaaGreatDoorAli
import Derived.Test.YtfocdefchbnkpaaGreatDoorPkC
set_option maxRecDepth 100000
set_option maxHeartbeats 20000000
namespace Go.Proofs.YtfocdefchbnkpaaGreatDoor
open Go.RowKit
theorem yK {α:Type}(f:α->List UInt8)(B:Nat)(l:List α)(h:∀x∈l,(f x).length<=B):(zL f l).length<=1+l.length*B:=by
 unfold zL
 rw[zm]
 have:=R.flat_len f B l h
 omega
theorem zq2 {m:P.Mt}(h:VMt m):(K.mt m).length<=60:=by
 unfold K.mt
 have h1:=h.nl
 have h2:=h.vl
 rw[zW,xa]
 split
 ·rw[zm,xa];omega
 ·simp;omega
theorem zq5 {t:List UInt8×Int}(h:VTg t):(K.tg t).length<=60:=by
 unfold K.tg;rw[zW,xa,uv];have:=h.ul;omega
theorem zq3 {t:List UInt8×List UInt8}(h:VSt t):(K.st t).length<=60:=by
 unfold K.st;rw[zW,xa,xa];have:=h.nl;have:=h.vl;omega
theorem znW (s:List UInt8):x8 (!decide (s=[])) s=kk s:=by
 unfold x8 kk
 by_cases h:s=[] <;> simp[h]
theorem zeS (s:List UInt8):(R.str s).toList.isEmpty=decide (s=[]):=by
 rw[ByteArray.toList_eq,R.str_toList]
 cases s <;> rfl
theorem join7 (a b c d e f g:List UInt8):qe [a,b,c,d,e,f,g]=a++(b++(c++(d++(e++(f++g))))):=by unfold qe;simp
theorem zl3 (r:P.Rl)(m1 t1 x1 d1:Option Addr)(m2 t2 x2 d2:Nat)(w:World)(hM:w.ownsRow 0 276 3 (.slice m1 r.ms.length m2) r.ms.length (qY r.ms))(aD:w.ownsRow 0 285 2 (.slice t1 r.tg.length t2) r.tg.length (zi r.tg))(hS:w.ownsRow 0 280 2 (.slice x1 r.sets.length x2) r.sets.length (zb r.sets))(hD:w.ownsRow 0 9 1 (.slice d1 r.drops.length d2) r.drops.length (zh r.drops))(hv:VRl r):Calls Tryz.prog 110 #[.agg #[.int .i64 r.number,.string (R.str r.path),.slice m1 r.ms.length m2,.slice t1 r.tg.length t2,.string (R.str r.rep),.slice x1 r.sets.length x2,.slice d1 r.drops.length d2]] w (Gives w (zt r)):=by
 have aa:Y ((w.alloc (.cells #[.int .i64 r.number,.string (R.str r.path),.slice m1 r.ms.length m2,.slice t1 r.tg.length t2,.string (R.str r.rep),.slice x1 r.sets.length x2,.slice d1 r.drops.length d2] 213)).heap[w.heap.size]?=some (.cells #[.int .i64 r.number,.string (R.str r.path),.slice m1 r.ms.length m2,.slice t1 r.tg.length t2,.string (R.str r.rep),.slice x1 r.sets.length x2,.slice d1 r.drops.length d2] 213)):=heap_alloc_new _ _
 have c0:=zr4 aa.o
 have c1:=zr5 aa.o
 have c2:=zr6 aa.o
 have c3:=zr7 aa.o
 have c4:=zr8 aa.o
 have c5:=zr9 aa.o
 have c6:=zrA aa.o
 have ab:Y (w.grownBy (w.alloc (.cells #[.int .i64 r.number,.string (R.str r.path),.slice m1 r.ms.length m2,.slice t1 r.tg.length t2,.string (R.str r.rep),.slice x1 r.sets.length x2,.slice d1 r.drops.length d2] 213)) none):=zJ _ _ _
 have bH:=zE aa.o
 have HM:=J (zO hM ab.o (fun k hk c=>by cases c))
 have af:=J (zO aD ab.o (fun k hk c=>by cases c))
 have ae:=J (zO hS ab.o (fun k hk c=>by cases c))
 have ad:Y ((w.alloc (.cells #[.int .i64 r.number,.string (R.str r.path),.slice m1 r.ms.length m2,.slice t1 r.tg.length t2,.string (R.str r.rep),.slice x1 r.sets.length x2,.slice d1 r.drops.length d2] 213)).ownsRow 0 9 1 (.slice d1 r.drops.length d2) r.drops.length (r.drops.map fun s=>[Value.string (R.str s)]).flatten):=strRow1 (zO hD ab.o (fun k hk c=>by cases c))
 have hb:=zeS r.rep
 have l1:(zL K.mt r.ms).length<=200:=by have:=yK K.mt 60 r.ms (fun x hx=>zq2 (hv.ms x hx));have:=hv.ml;omega
 have l2:(zL K.tg r.tg).length<=300:=by have:=yK K.tg 60 r.tg (fun x hx=>zq5 (hv.tg x hx));have:=hv.tl;omega
 have l3:(zL K.st r.sets).length<=200:=by have:=yK K.st 60 r.sets (fun x hx=>zq3 (hv.sets x hx));have:=hv.sl;omega
 have l4:(zL zI r.drops).length<=200:=by have:=yK zI 60 r.drops (fun x hx=>by rw[xa];have:=(hv.drops x hx).nl;omega);have:=hv.dl;omega
 have l5:r.rep.length<=24:=by rcases hv.rep with h | h;rw[h];simp;exact h.2
 have l6:=hv.pl
 have hR:=znW r.rep
 have HV:Y (VRl r):=hv
 clear hM aD hS hD hv
 have C1:Y (∀W,(w.alloc (.cells #[.int .i64 r.number,.string (R.str r.path),.slice m1 r.ms.length m2,.slice t1 r.tg.length t2,.string (R.str r.rep),.slice x1 r.sets.length x2,.slice d1 r.drops.length d2] 213)).grownBy W none->Calls Tryz.prog 111 #[.int .i64 r.number] W fun e w'=>∃a k,e = .returned (.slice a (qS r.number).length k)/\Rd w' (.slice a (qS r.number).length k) (qS r.number)/\W.grownBy w' none/\(w.alloc (.cells #[.int .i64 r.number,.string (R.str r.path),.slice m1 r.ms.length m2,.slice t1 r.tg.length t2,.string (R.str r.rep),.slice x1 r.sets.length x2,.slice d1 r.drops.length d2] 213)).grownBy w' none/\w'.cell? ⟨w.heap.size,0,none⟩=some (.int .i64 r.number)/\w'.cell? ⟨w.heap.size,1,none⟩=some (.string (R.str r.path))/\w'.cell? ⟨w.heap.size,2,none⟩=some (.slice m1 r.ms.length m2)/\w'.cell? ⟨w.heap.size,3,none⟩=some (.slice t1 r.tg.length t2)/\w'.cell? ⟨w.heap.size,4,none⟩=some (.string (R.str r.rep))/\w'.cell? ⟨w.heap.size,5,none⟩=some (.slice x1 r.sets.length x2)/\w'.cell? ⟨w.heap.size,6,none⟩=some (.slice d1 r.drops.length d2)):=fun W hW=>(zfZ r.number W HV.o.num.1).mono fun e w' ⟨a,k,h1,h2,h3⟩=>⟨a,k,h1,Rd.of_row h2,h3,zA hW h3,z8 (zB aa.o (zA hW h3) (by simp)),z8 (zB aa.o (zA hW h3) (by simp)),z8 (zB aa.o (zA hW h3) (by simp)),z8 (zB aa.o (zA hW h3) (by simp)),z8 (zB aa.o (zA hW h3) (by simp)),z8 (zB aa.o (zA hW h3) (by simp)),z8 (zB aa.o (zA hW h3) (by simp))⟩
 have C2:Y (∀W,(w.alloc (.cells #[.int .i64 r.number,.string (R.str r.path),.slice m1 r.ms.length m2,.slice t1 r.tg.length t2,.string (R.str r.rep),.slice x1 r.sets.length x2,.slice d1 r.drops.length d2] 213)).grownBy W none->Calls Tryz.prog 108 #[.string (R.str r.path)] W fun e w'=>∃a k,e = .returned (.slice a (zI r.path).length k)/\Rd w' (.slice a (zI r.path).length k) (zI r.path)/\W.grownBy w' none/\(w.alloc (.cells #[.int .i64 r.number,.string (R.str r.path),.slice m1 r.ms.length m2,.slice t1 r.tg.length t2,.string (R.str r.rep),.slice x1 r.sets.length x2,.slice d1 r.drops.length d2] 213)).grownBy w' none/\w'.cell? ⟨w.heap.size,0,none⟩=some (.int .i64 r.number)/\w'.cell? ⟨w.heap.size,1,none⟩=some (.string (R.str r.path))/\w'.cell? ⟨w.heap.size,2,none⟩=some (.slice m1 r.ms.length m2)/\w'.cell? ⟨w.heap.size,3,none⟩=some (.slice t1 r.tg.length t2)/\w'.cell? ⟨w.heap.size,4,none⟩=some (.string (R.str r.rep))/\w'.cell? ⟨w.heap.size,5,none⟩=some (.slice x1 r.sets.length x2)/\w'.cell? ⟨w.heap.size,6,none⟩=some (.slice d1 r.drops.length d2)):=fun W hW=>(yy r.path W (by omega)).mono fun e w' ⟨a,k,h1,h2,h3⟩=>⟨a,k,h1,Rd.of_row h2,h3,zA hW h3,z8 (zB aa.o (zA hW h3) (by simp)),z8 (zB aa.o (zA hW h3) (by simp)),z8 (zB aa.o (zA hW h3) (by simp)),z8 (zB aa.o (zA hW h3) (by simp)),z8 (zB aa.o (zA hW h3) (by simp)),z8 (zB aa.o (zA hW h3) (by simp)),z8 (zB aa.o (zA hW h3) (by simp))⟩
 have C3:Y (∀W,(w.alloc (.cells #[.int .i64 r.number,.string (R.str r.path),.slice m1 r.ms.length m2,.slice t1 r.tg.length t2,.string (R.str r.rep),.slice x1 r.sets.length x2,.slice d1 r.drops.length d2] 213)).grownBy W none->Calls Tryz.prog 162 #[.func (.func 163) #[] #[],.slice m1 r.ms.length m2] W fun e w'=>∃a k,e = .returned (.slice a (zL K.mt r.ms).length k)/\Rd w' (.slice a (zL K.mt r.ms).length k) (zL K.mt r.ms)/\W.grownBy w' none/\(w.alloc (.cells #[.int .i64 r.number,.string (R.str r.path),.slice m1 r.ms.length m2,.slice t1 r.tg.length t2,.string (R.str r.rep),.slice x1 r.sets.length x2,.slice d1 r.drops.length d2] 213)).grownBy w' none/\w'.cell? ⟨w.heap.size,0,none⟩=some (.int .i64 r.number)/\w'.cell? ⟨w.heap.size,1,none⟩=some (.string (R.str r.path))/\w'.cell? ⟨w.heap.size,2,none⟩=some (.slice m1 r.ms.length m2)/\w'.cell? ⟨w.heap.size,3,none⟩=some (.slice t1 r.tg.length t2)/\w'.cell? ⟨w.heap.size,4,none⟩=some (.string (R.str r.rep))/\w'.cell? ⟨w.heap.size,5,none⟩=some (.slice x1 r.sets.length x2)/\w'.cell? ⟨w.heap.size,6,none⟩=some (.slice d1 r.drops.length d2)):=fun W hW=>(zkK r.ms _ (zO HM.o hW (fun k hk c=>by cases c)) (by have:=HV.o.ml;omega) (fun x hx=>⟨by have:=(HV.o.ms x hx).nl;omega,by have:=(HV.o.ms x hx).vl;omega⟩) (by omega)).mono fun e w' ⟨a,k,h1,h2,h3⟩=>⟨a,k,h1,Rd.of_row h2,h3,zA hW h3,z8 (zB aa.o (zA hW h3) (by simp)),z8 (zB aa.o (zA hW h3) (by simp)),z8 (zB aa.o (zA hW h3) (by simp)),z8 (zB aa.o (zA hW h3) (by simp)),z8 (zB aa.o (zA hW h3) (by simp)),z8 (zB aa.o (zA hW h3) (by simp)),z8 (zB aa.o (zA hW h3) (by simp))⟩
 have C4:Y (∀W,(w.alloc (.cells #[.int .i64 r.number,.string (R.str r.path),.slice m1 r.ms.length m2,.slice t1 r.tg.length t2,.string (R.str r.rep),.slice x1 r.sets.length x2,.slice d1 r.drops.length d2] 213)).grownBy W none->Calls Tryz.prog 164 #[.func (.func 165) #[] #[],.slice t1 r.tg.length t2] W fun e w'=>∃a k,e = .returned (.slice a (zL K.tg r.tg).length k)/\Rd w' (.slice a (zL K.tg r.tg).length k) (zL K.tg r.tg)/\W.grownBy w' none/\(w.alloc (.cells #[.int .i64 r.number,.string (R.str r.path),.slice m1 r.ms.length m2,.slice t1 r.tg.length t2,.string (R.str r.rep),.slice x1 r.sets.length x2,.slice d1 r.drops.length d2] 213)).grownBy w' none/\w'.cell? ⟨w.heap.size,0,none⟩=some (.int .i64 r.number)/\w'.cell? ⟨w.heap.size,1,none⟩=some (.string (R.str r.path))/\w'.cell? ⟨w.heap.size,2,none⟩=some (.slice m1 r.ms.length m2)/\w'.cell? ⟨w.heap.size,3,none⟩=some (.slice t1 r.tg.length t2)/\w'.cell? ⟨w.heap.size,4,none⟩=some (.string (R.str r.rep))/\w'.cell? ⟨w.heap.size,5,none⟩=some (.slice x1 r.sets.length x2)/\w'.cell? ⟨w.heap.size,6,none⟩=some (.slice d1 r.drops.length d2)):=fun W hW=>(zkN r.tg _ (zO af.o hW (fun k hk c=>by cases c)) (by have:=HV.o.tl;omega) (fun x hx=>⟨by have:=(HV.o.tg x hx).ul;omega,by have:=(HV.o.tg x hx).lo;omega⟩) (by omega)).mono fun e w' ⟨a,k,h1,h2,h3⟩=>⟨a,k,h1,Rd.of_row h2,h3,zA hW h3,z8 (zB aa.o (zA hW h3) (by simp)),z8 (zB aa.o (zA hW h3) (by simp)),z8 (zB aa.o (zA hW h3) (by simp)),z8 (zB aa.o (zA hW h3) (by simp)),z8 (zB aa.o (zA hW h3) (by simp)),z8 (zB aa.o (zA hW h3) (by simp)),z8 (zB aa.o (zA hW h3) (by simp))⟩
 have C5:Y (∀W,(w.alloc (.cells #[.int .i64 r.number,.string (R.str r.path),.slice m1 r.ms.length m2,.slice t1 r.tg.length t2,.string (R.str r.rep),.slice x1 r.sets.length x2,.slice d1 r.drops.length d2] 213)).grownBy W none->Calls Tryz.prog 166 #[.bool (!decide (r.rep=[])),.string (R.str r.rep)] W fun e w'=>∃a k,e = .returned (.slice a (x8 (!decide (r.rep=[])) r.rep).length k)/\Rd w' (.slice a (x8 (!decide (r.rep=[])) r.rep).length k) (x8 (!decide (r.rep=[])) r.rep)/\W.grownBy w' none/\(w.alloc (.cells #[.int .i64 r.number,.string (R.str r.path),.slice m1 r.ms.length m2,.slice t1 r.tg.length t2,.string (R.str r.rep),.slice x1 r.sets.length x2,.slice d1 r.drops.length d2] 213)).grownBy w' none/\w'.cell? ⟨w.heap.size,0,none⟩=some (.int .i64 r.number)/\w'.cell? ⟨w.heap.size,1,none⟩=some (.string (R.str r.path))/\w'.cell? ⟨w.heap.size,2,none⟩=some (.slice m1 r.ms.length m2)/\w'.cell? ⟨w.heap.size,3,none⟩=some (.slice t1 r.tg.length t2)/\w'.cell? ⟨w.heap.size,4,none⟩=some (.string (R.str r.rep))/\w'.cell? ⟨w.heap.size,5,none⟩=some (.slice x1 r.sets.length x2)/\w'.cell? ⟨w.heap.size,6,none⟩=some (.slice d1 r.drops.length d2)):=fun W hW=>(uX (!decide (r.rep=[])) r.rep W (by omega)).mono fun e w' ⟨a,k,h1,h2,h3⟩=>⟨a,k,h1,Rd.of_row h2,h3,zA hW h3,z8 (zB aa.o (zA hW h3) (by simp)),z8 (zB aa.o (zA hW h3) (by simp)),z8 (zB aa.o (zA hW h3) (by simp)),z8 (zB aa.o (zA hW h3) (by simp)),z8 (zB aa.o (zA hW h3) (by simp)),z8 (zB aa.o (zA hW h3) (by simp)),z8 (zB aa.o (zA hW h3) (by simp))⟩
 have C6:Y (∀W,(w.alloc (.cells #[.int .i64 r.number,.string (R.str r.path),.slice m1 r.ms.length m2,.slice t1 r.tg.length t2,.string (R.str r.rep),.slice x1 r.sets.length x2,.slice d1 r.drops.length d2] 213)).grownBy W none->Calls Tryz.prog 167 #[.func (.func 168) #[] #[],.slice x1 r.sets.length x2] W fun e w'=>∃a k,e = .returned (.slice a (zL K.st r.sets).length k)/\Rd w' (.slice a (zL K.st r.sets).length k) (zL K.st r.sets)/\W.grownBy w' none/\(w.alloc (.cells #[.int .i64 r.number,.string (R.str r.path),.slice m1 r.ms.length m2,.slice t1 r.tg.length t2,.string (R.str r.rep),.slice x1 r.sets.length x2,.slice d1 r.drops.length d2] 213)).grownBy w' none/\w'.cell? ⟨w.heap.size,0,none⟩=some (.int .i64 r.number)/\w'.cell? ⟨w.heap.size,1,none⟩=some (.string (R.str r.path))/\w'.cell? ⟨w.heap.size,2,none⟩=some (.slice m1 r.ms.length m2)/\w'.cell? ⟨w.heap.size,3,none⟩=some (.slice t1 r.tg.length t2)/\w'.cell? ⟨w.heap.size,4,none⟩=some (.string (R.str r.rep))/\w'.cell? ⟨w.heap.size,5,none⟩=some (.slice x1 r.sets.length x2)/\w'.cell? ⟨w.heap.size,6,none⟩=some (.slice d1 r.drops.length d2)):=fun W hW=>(zkM r.sets _ (zO ae.o hW (fun k hk c=>by cases c)) (by have:=HV.o.sl;omega) (fun x hx=>⟨by have:=(HV.o.sets x hx).nl;omega,by have:=(HV.o.sets x hx).vl;omega⟩) (by omega)).mono fun e w' ⟨a,k,h1,h2,h3⟩=>⟨a,k,h1,Rd.of_row h2,h3,zA hW h3,z8 (zB aa.o (zA hW h3) (by simp)),z8 (zB aa.o (zA hW h3) (by simp)),z8 (zB aa.o (zA hW h3) (by simp)),z8 (zB aa.o (zA hW h3) (by simp)),z8 (zB aa.o (zA hW h3) (by simp)),z8 (zB aa.o (zA hW h3) (by simp)),z8 (zB aa.o (zA hW h3) (by simp))⟩
 have C7:Y (∀W,(w.alloc (.cells #[.int .i64 r.number,.string (R.str r.path),.slice m1 r.ms.length m2,.slice t1 r.tg.length t2,.string (R.str r.rep),.slice x1 r.sets.length x2,.slice d1 r.drops.length d2] 213)).grownBy W none->Calls Tryz.prog 169 #[.func (.func 108) #[] #[],.slice d1 r.drops.length d2] W fun e w'=>∃a k,e = .returned (.slice a (zL zI r.drops).length k)/\Rd w' (.slice a (zL zI r.drops).length k) (zL zI r.drops)/\W.grownBy w' none/\(w.alloc (.cells #[.int .i64 r.number,.string (R.str r.path),.slice m1 r.ms.length m2,.slice t1 r.tg.length t2,.string (R.str r.rep),.slice x1 r.sets.length x2,.slice d1 r.drops.length d2] 213)).grownBy w' none/\w'.cell? ⟨w.heap.size,0,none⟩=some (.int .i64 r.number)/\w'.cell? ⟨w.heap.size,1,none⟩=some (.string (R.str r.path))/\w'.cell? ⟨w.heap.size,2,none⟩=some (.slice m1 r.ms.length m2)/\w'.cell? ⟨w.heap.size,3,none⟩=some (.slice t1 r.tg.length t2)/\w'.cell? ⟨w.heap.size,4,none⟩=some (.string (R.str r.rep))/\w'.cell? ⟨w.heap.size,5,none⟩=some (.slice x1 r.sets.length x2)/\w'.cell? ⟨w.heap.size,6,none⟩=some (.slice d1 r.drops.length d2)):=fun W hW=>(zkI r.drops _ (zO ad.o hW (fun k hk c=>by cases c)) (by have:=HV.o.dl;omega) (fun x hx=>by have:=(HV.o.drops x hx).nl;omega) (by omega)).mono fun e w' ⟨a,k,h1,h2,h3⟩=>⟨a,k,h1,Rd.of_row h2,h3,zA hW h3,z8 (zB aa.o (zA hW h3) (by simp)),z8 (zB aa.o (zA hW h3) (by simp)),z8 (zB aa.o (zA hW h3) (by simp)),z8 (zB aa.o (zA hW h3) (by simp)),z8 (zB aa.o (zA hW h3) (by simp)),z8 (zB aa.o (zA hW h3) (by simp)),z8 (zB aa.o (zA hW h3) (by simp))⟩
 have HJ:Y (∀W a1 k1 a2 k2 a3 k3 a4 k4 a5 k5 a6 k6 a7 k7,(w.alloc (.cells #[.int .i64 r.number,.string (R.str r.path),.slice m1 r.ms.length m2,.slice t1 r.tg.length t2,.string (R.str r.rep),.slice x1 r.sets.length x2,.slice d1 r.drops.length d2] 213)).grownBy W none->Rd W (.slice a1 (qS r.number).length k1) (qS r.number)->Rd W (.slice a2 (zI r.path).length k2) (zI r.path)->Rd W (.slice a3 (zL K.mt r.ms).length k3) (zL K.mt r.ms)->Rd W (.slice a4 (zL K.tg r.tg).length k4) (zL K.tg r.tg)->Rd W (.slice a5 (x8 (!decide (r.rep=[])) r.rep).length k5) (x8 (!decide (r.rep=[])) r.rep)->Rd W (.slice a6 (zL K.st r.sets).length k6) (zL K.st r.sets)->Rd W (.slice a7 (zL zI r.drops).length k7) (zL zI r.drops)->Calls Tryz.prog 70 #[.slice (some ⟨W.heap.size,0,none⟩) 7 7] (W.alloc (.cells #[.slice a1 (qS r.number).length k1,.slice a2 (zI r.path).length k2,.slice a3 (zL K.mt r.ms).length k3,.slice a4 (zL K.tg r.tg).length k4,.slice a5 (x8 (!decide (r.rep=[])) r.rep).length k5,.slice a6 (zL K.st r.sets).length k6,.slice a7 (zL zI r.drops).length k7] 32)) fun e w'=>Gives w (zt r) e w'/\w'.cell? ⟨w.heap.size,0,none⟩=some (.int .i64 r.number)/\w'.cell? ⟨w.heap.size,1,none⟩=some (.string (R.str r.path))/\w'.cell? ⟨w.heap.size,2,none⟩=some (.slice m1 r.ms.length m2)/\w'.cell? ⟨w.heap.size,3,none⟩=some (.slice t1 r.tg.length t2)/\w'.cell? ⟨w.heap.size,4,none⟩=some (.string (R.str r.rep))/\w'.cell? ⟨w.heap.size,5,none⟩=some (.slice x1 r.sets.length x2)/\w'.cell? ⟨w.heap.size,6,none⟩=some (.slice d1 r.drops.length d2)):=fun W a1 k1 a2 k2 a3 k3 a4 k4 a5 k5 a6 k6 a7 k7 hW r1 r2 r3 r4 r5 r6 r7=>by
  have h:=xZ hW [.slice a1 (qS r.number).length k1,.slice a2 (zI r.path).length k2,.slice a3 (zL K.mt r.ms).length k3,.slice a4 (zL K.tg r.tg).length k4,.slice a5 (x8 (!decide (r.rep=[])) r.rep).length k5,.slice a6 (zL K.st r.sets).length k6,.slice a7 (zL zI r.drops).length k7] [qS r.number,zI r.path,zL K.mt r.ms,zL K.tg r.tg,x8 (!decide (r.rep=[])) r.rep,zL K.st r.sets,zL zI r.drops] (.cons r1 (.cons r2 (.cons r3 (.cons r4 (.cons r5 (.cons r6 (.cons r7 .nil))))))) (by rw[join7];have:=zf2 (!decide (r.rep=[])) r.rep;simp only[zW,xa,uv];omega) (by simp)
  rw[show qe [qS r.number,zI r.path,zL K.mt r.ms,zL K.tg r.tg,x8 (!decide (r.rep=[])) r.rep,zL K.st r.sets,zL zI r.drops]=zt r by rw[join7,hR];rfl] at h
  refine Calls.mono h fun e w' ⟨a,k,h1,h2,h3⟩=>⟨⟨a,k,h1,jm h2 ab.o.size,zA ab.o h3⟩,z8 (zB aa.o h3 (by simp)),z8 (zB aa.o h3 (by simp)),z8 (zB aa.o h3 (by simp)),z8 (zB aa.o h3 (by simp)),z8 (zB aa.o h3 (by simp)),z8 (zB aa.o h3 (by simp)),z8 (zB aa.o h3 (by simp))⟩
 clear aa ab HM af ae ad HV hR l1 l2 l3 l4 l5 l6
 go_enter Tryz.func110,Tryz.ntmps110
 go_wp2_with fail
 generalize(w.alloc (.cells #[.int .i64 r.number,.string (R.str r.path),.slice m1 r.ms.length m2,.slice t1 r.tg.length t2,.string (R.str r.rep),.slice x1 r.sets.length x2,.slice d1 r.drops.length d2] 213))=wa at*
 go_region_held3 (fun W=>W.cell? ⟨w.heap.size,0,none⟩=some (.int .i64 r.number)/\W.cell? ⟨w.heap.size,1,none⟩=some (.string (R.str r.path))/\W.cell? ⟨w.heap.size,2,none⟩=some (.slice m1 r.ms.length m2)/\W.cell? ⟨w.heap.size,3,none⟩=some (.slice t1 r.tg.length t2)/\W.cell? ⟨w.heap.size,4,none⟩=some (.string (R.str r.rep))/\W.cell? ⟨w.heap.size,5,none⟩=some (.slice x1 r.sets.length x2)/\W.cell? ⟨w.heap.size,6,none⟩=some (.slice d1 r.drops.length d2)) (go_keep) (first
  | (go_at_call 111;show Calls _ _ _ (World.drew wa) _;refine(C1.o _ (zQ wa)).mono ?_;rintro e w1 ⟨a1,k1,rfl,r1,g1,G1,aL,aM,aN,aO,aP,aQ,aR⟩;have ag:Y (Rd w1 (.slice a1 (qS r.number).length k1) (qS r.number)):=r1;have G1:Y (wa.grownBy w1 none):=G1;clear r1 g1)
  | (go_at_call 108;refine(C2.o _ G1.o).mono ?_;rintro e w2 ⟨a2,k2,rfl,r2,g2,G2,aS,aT,aU,aV,aW,aX,aY⟩;have am:Y (Rd w2 (.slice a2 (zI r.path).length k2) (zI r.path)):=r2;have ah:Y (Rd w2 (.slice a1 (qS r.number).length k1) (qS r.number)):=ag.o.keep g2;have G2:Y (wa.grownBy w2 none):=G2;clear r2 g2 ag G1)
  | (go_at_call 162;refine(C3.o _ G2.o).mono ?_;rintro e w3 ⟨a3,k3,rfl,r3,g3,G3,a0,a8,a9,ba,bb,bc,bd⟩;have ar:Y (Rd w3 (.slice a3 (zL K.mt r.ms).length k3) (zL K.mt r.ms)):=r3;have ai:Y (Rd w3 (.slice a1 (qS r.number).length k1) (qS r.number)):=ah.o.keep g3;have an:Y (Rd w3 (.slice a2 (zI r.path).length k2) (zI r.path)):=am.o.keep g3;have G3:Y (wa.grownBy w3 none):=G3;clear r3 g3 ah am G2)
  | (go_at_call 164;refine(C4.o _ G3.o).mono ?_;rintro e w4 ⟨a4,k4,rfl,r4,g4,G4,be,bf,bg,bh,bi,bj,bk⟩;have ax:Y (Rd w4 (.slice a4 (zL K.tg r.tg).length k4) (zL K.tg r.tg)):=r4;have aj:Y (Rd w4 (.slice a1 (qS r.number).length k1) (qS r.number)):=ai.o.keep g4;have ao:Y (Rd w4 (.slice a2 (zI r.path).length k2) (zI r.path)):=an.o.keep g4;have au:Y (Rd w4 (.slice a3 (zL K.mt r.ms).length k3) (zL K.mt r.ms)):=ar.o.keep g4;have G4:Y (wa.grownBy w4 none):=G4;clear r4 g4 ai an ar G3)
  | (go_at_call 166;refine(C5.o _ G4.o).mono ?_;rintro e w5 ⟨a5,k5,rfl,r5,g5,G5,bl,bm,bn,bo,bp,bq,br⟩;have aA:Y (Rd w5 (.slice a5 (x8 (!decide (r.rep=[])) r.rep).length k5) (x8 (!decide (r.rep=[])) r.rep)):=r5;have ak:Y (Rd w5 (.slice a1 (qS r.number).length k1) (qS r.number)):=aj.o.keep g5;have ap:Y (Rd w5 (.slice a2 (zI r.path).length k2) (zI r.path)):=ao.o.keep g5;have av:Y (Rd w5 (.slice a3 (zL K.mt r.ms).length k3) (zL K.mt r.ms)):=au.o.keep g5;have ay:Y (Rd w5 (.slice a4 (zL K.tg r.tg).length k4) (zL K.tg r.tg)):=ax.o.keep g5;have G5:Y (wa.grownBy w5 none):=G5;clear r5 g5 aj ao au ax G4)
  | (go_at_call 167;refine(C6.o _ G5.o).mono ?_;rintro e w6 ⟨a6,k6,rfl,r6,g6,G6,bs,bt,bu,bv,bw,bx,bz⟩;have aC:Y (Rd w6 (.slice a6 (zL K.st r.sets).length k6) (zL K.st r.sets)):=r6;have al:Y (Rd w6 (.slice a1 (qS r.number).length k1) (qS r.number)):=ak.o.keep g6;have aq:Y (Rd w6 (.slice a2 (zI r.path).length k2) (zI r.path)):=ap.o.keep g6;have aw:Y (Rd w6 (.slice a3 (zL K.mt r.ms).length k3) (zL K.mt r.ms)):=av.o.keep g6;have az:Y (Rd w6 (.slice a4 (zL K.tg r.tg).length k4) (zL K.tg r.tg)):=ay.o.keep g6;have aB:Y (Rd w6 (.slice a5 (x8 (!decide (r.rep=[])) r.rep).length k5) (x8 (!decide (r.rep=[])) r.rep)):=aA.o.keep g6;have G6:Y (wa.grownBy w6 none):=G6;clear r6 g6 ak ap av ay aA G5)
  | (go_at_call 169;refine(C7.o _ G6.o).mono ?_;rintro e w7 ⟨a7,k7,rfl,r7,g7,G7,bA,bB,bC,bD,bE,bF,bG⟩;have aK:Y (Rd w7 (.slice a7 (zL zI r.drops).length k7) (zL zI r.drops)):=r7;have aE:Y (Rd w7 (.slice a1 (qS r.number).length k1) (qS r.number)):=al.o.keep g7;have aF:Y (Rd w7 (.slice a2 (zI r.path).length k2) (zI r.path)):=aq.o.keep g7;have aG:Y (Rd w7 (.slice a3 (zL K.mt r.ms).length k3) (zL K.mt r.ms)):=aw.o.keep g7;have aH:Y (Rd w7 (.slice a4 (zL K.tg r.tg).length k4) (zL K.tg r.tg)):=az.o.keep g7;have aI:Y (Rd w7 (.slice a5 (x8 (!decide (r.rep=[])) r.rep).length k5) (x8 (!decide (r.rep=[])) r.rep)):=aB.o.keep g7;have aJ:Y (Rd w7 (.slice a6 (zL K.st r.sets).length k6) (zL K.st r.sets)):=aC.o.keep g7;have G7:Y (wa.grownBy w7 none):=G7;clear r7 g7 al aq aw az aB aC G6)
  | (go_at_call 70;refine(HJ.o _ a1 k1 a2 k2 a3 k3 a4 k4 a5 k5 a6 k6 a7 k7 G7.o aE.o aF.o aG.o aH.o aI.o aJ.o aK.o).mono ?_;rintro e wZ ⟨⟨aZ,kZ,rfl,hZ,gZ⟩,z0,z1,z2,z3,z4,z5,z6⟩;have HZ:Y (wZ.ownsRow w.heap.size 5 1 (.slice aZ (zt r).length kZ) (zt r).length (Lib.byteCells (zt r))):=hZ;have GZ:Y (w.grownBy wZ none):=gZ;clear hZ gZ))
 all_goals
  go_wp2
  go_ret
  exact⟨aZ,kZ,rfl,HZ.o,GZ.o⟩
theorem zj8 {r:P.Rl}(hv:VRl r):(zt r).length<=1200:=by
 have l1:=yK K.mt 60 r.ms (fun x hx=>zq2 (hv.ms x hx))
 have l2:=yK K.tg 60 r.tg (fun x hx=>zq5 (hv.tg x hx))
 have l3:=yK K.st 60 r.sets (fun x hx=>zq3 (hv.sets x hx))
 have l4:=yK zI 60 r.drops (fun x hx=>by rw[xa];have:=(hv.drops x hx).nl;omega)
 have l5:r.rep.length<=24:=by rcases hv.rep with h | h;rw[h];simp;exact h.2
 have l6:=hv.pl
 have:=hv.ml;have:=hv.tl;have:=hv.sl;have:=hv.dl
 have l7:(kk r.rep).length<=26:=by
  unfold kk;split
  ·simp
  ·rw[zm,xa];omega
 unfold zt
 simp only[zW,xa,uv];omega
theorem zkL {w:World}(l:List P.Rl)(v:Value)(ab:List (List Value))(ag:w.ownsRow 0 213 7 v l.length ab.flatten)(al:All2 (PRuleVal w) ab l)(hn:l.length<=255)(hv:∀x∈l,VRl x)(aq:(zL zt l).length<=900000) :
  Calls Tryz.prog 109 #[.func (.func 110) #[] #[],v] w (Gives w (zL zt l)):=by
 obtain⟨va,vc,rfl⟩:=zP ag
 have HR:Y (w.ownsRow 0 213 7 (.slice va l.length vc) l.length ab.flatten):=ag
 have HA:Y (All2 (PRuleVal w) ab l):=al
 have HV:Y (∀x∈l,VRl x):=hv
 have av:Y ((zL zt l).length<=900000):=aq
 clear ag hv aq al
 go_enter Tryz.func109,Tryz.ntmps109
 go_wp2_with fail
 refine(j4 l.length w).mono ?_
 rintro e w0 ⟨a0,k0,rfl,h0,g0⟩
 have aj:Y (w0.ownsRow w.heap.size 5 1 (.slice a0 (zG zt l 0).length k0) (zG zt l 0).length (Lib.byteCells (zG zt l 0))):=h0
 have ah:Y (w.grownBy w0 none):=g0
 clear h0 g0
 go_wp2_with fail
 go_loopw [5,13] (fun sv iv wr=>∃i:Nat,i<=l.length/\iv = .int .i64 i/\(∃a k,sv = .slice a (zG zt l i).length k/\Y (wr.ownsRow w.heap.size 5 1 (.slice a (zG zt l i).length k) (zG zt l i).length (Lib.byteCells (zG zt l i))))/\Y (w.grownBy wr none)) (fun _ iv _=>l.length - (intOf iv).toNat)
 case atStart=>exact⟨0,zl _,rfl,⟨a0,k0,rfl,aj⟩,ah⟩
 case round=>
  obtain⟨i,aG,rfl,⟨a,k,rfl,HO⟩,HG⟩:=hrel
  clear aj ah
  by_cases af:i<l.length
  ·have aF:(i:Int)<l.length:=by omega
   obtain⟨gt,aD,ap,_,aE⟩:=World.ownsRow.form HR.o (by omega)
   simp only[qc] at ap
   obtain⟨rfl,_,rfl⟩:=ap
   have ar:=zO HR.o HG.o (fun k hk c=>by cases c)
   obtain⟨ce,am,ao⟩:=ku HA.o i af
   have an:=am.keep HG.o (zv _ _)
   have aa:∀j,j<7->wr.cell? ⟨gt,i*7+j,none⟩=ce[j]?:=fun j hj=>by
    rw[xd ar (i*7+j) (by omega)];exact ao j hj
   have au:=HV.o l[i] (List.getElem_mem af)
   have ad:Y (qe [zG zt l i,zt l[i]]=zG zt l (i+1)):=yO zt l i af
   have aH:(zG zt l (i+1)).length<=900000:=zp (yv zt l (i+1)) av.o
   generalize l[i]=x at*
   obtain⟨vM,vT,vS,vD,rfl,hM,ae,hS,hD⟩:=id an
   obtain⟨m1,m2,rfl⟩:=zP hM
   obtain⟨t1,t2,rfl⟩:=zP ae
   obtain⟨x1,x2,rfl⟩:=zP hS
   obtain⟨d1,d2,rfl⟩:=zP hD
   have aw:wr.cell? ⟨gt,i*7,none⟩=some (.int .i64 x.number):=aa 0 (by omega)
   have ax:wr.cell? ⟨gt,i*7+1,none⟩=some (.string (R.str x.path)):=aa 1 (by omega)
   have ay:wr.cell? ⟨gt,i*7+2,none⟩=some (.slice m1 x.ms.length m2):=aa 2 (by omega)
   have az:wr.cell? ⟨gt,i*7+3,none⟩=some (.slice t1 x.tg.length t2):=aa 3 (by omega)
   have aA:wr.cell? ⟨gt,i*7+4,none⟩=some (.string (R.str x.rep)):=aa 4 (by omega)
   have aB:wr.cell? ⟨gt,i*7+5,none⟩=some (.slice x1 x.sets.length x2):=aa 5 (by omega)
   have aC:wr.cell? ⟨gt,i*7+6,none⟩=some (.slice d1 x.drops.length d2):=aa 6 (by omega)
   have gB:wr.grownBy (wr.alloc (.cells #[.int .i64 x.number,.string (R.str x.path),.slice m1 x.ms.length m2,.slice t1 x.tg.length t2,.string (R.str x.rep),.slice x1 x.sets.length x2,.slice d1 x.drops.length d2] 213)) none:=zJ _ _ none
   have HI:Y (Calls Tryz.prog 110 #[.agg #[.int .i64 x.number,.string (R.str x.path),.slice m1 x.ms.length m2,.slice t1 x.tg.length t2,.string (R.str x.rep),.slice x1 x.sets.length x2,.slice d1 x.drops.length d2]] (wr.alloc (.cells #[.int .i64 x.number,.string (R.str x.path),.slice m1 x.ms.length m2,.slice t1 x.tg.length t2,.string (R.str x.rep),.slice x1 x.sets.length x2,.slice d1 x.drops.length d2] 213)) (Gives (wr.alloc (.cells #[.int .i64 x.number,.string (R.str x.path),.slice m1 x.ms.length m2,.slice t1 x.tg.length t2,.string (R.str x.rep),.slice x1 x.sets.length x2,.slice d1 x.drops.length d2] 213)) (zt x))):=zl3 x m1 t1 x1 d1 m2 t2 x2 d2 (wr.alloc (.cells #[.int .i64 x.number,.string (R.str x.path),.slice m1 x.ms.length m2,.slice t1 x.tg.length t2,.string (R.str x.rep),.slice x1 x.sets.length x2,.slice d1 x.drops.length d2] 213)) (zO hM gB (fun k hk c=>by cases c)) (zO ae gB (fun k hk c=>by cases c)) (zO hS gB (fun k hk c=>by cases c)) (zO hD gB (fun k hk c=>by cases c)) au
   have ai:=J (zA HG.o gB)
   have R0:Y (Rd (wr.alloc (.cells #[.int .i64 x.number,.string (R.str x.path),.slice m1 x.ms.length m2,.slice t1 x.tg.length t2,.string (R.str x.rep),.slice x1 x.sets.length x2,.slice d1 x.drops.length d2] 213)) (.slice a (zG zt l i).length k) (zG zt l i)):=(Rd.of_row HO.o).keep gB
   clear HV HR HO HG au HA ar am an ao aa gB hM ae hS hD
   go_wp2_with fail
   refine HI.o.mono ?_
   rintro e w1 ⟨a1,k1,rfl,h1,g1⟩
   have R1:Y (Rd w1 (.slice a1 (zt x).length k1) (zt x)):=Rd.of_row h1
   have ak:Y (Rd w1 (.slice a (zG zt l i).length k) (zG zt l i)):=R0.o.keep g1
   have G1:=J (zA ai.o g1)
   have HJ:Y (Calls Tryz.prog 70 #[.slice (some ⟨w1.heap.size,0,none⟩) 2 2] (w1.alloc (.cells #[.slice a (zG zt l i).length k,.slice a1 (zt x).length k1] 32)) (Gives w (zG zt l (i+1)))):=by
    have h:=xZ G1.o [.slice a (zG zt l i).length k,.slice a1 (zt x).length k1] [zG zt l i,zt x] (.cons ak.o (.cons R1.o .nil)) (by rw[ad.o];omega) (by simp)
    rw[ad.o] at h
    exact h
   clear h1 g1 R0 ak R1 G1 ai HI ad
   go_wp2_with fail
   refine HJ.o.mono ?_
   rintro e w2 ⟨a2,k2,rfl,h2,g2⟩
   have H2:Y (w2.ownsRow w.heap.size 5 1 (.slice a2 (zG zt l (i+1)).length k2) (zG zt l (i+1)).length (Lib.byteCells (zG zt l (i+1)))):=h2
   have G2:Y (w.grownBy w2 none):=g2
   clear h2 g2 HJ
   go_wp2
   go_roundw
   case rel=>exact⟨i+1,by omega,by go_num,⟨a2,k2,rfl,H2⟩,G2⟩
   case measure=>simp[intOf];omega
  ·have hE:i=l.length:=by omega
   subst hE
   have HC:Y (zG zt l l.length=zL zt l):=ye zt l
   rw[HC.o] at HO ⊢
   go_wp2
   go_ret
   exact⟨a,k,rfl,HO.o,HG.o⟩
theorem zl2 (x:P.Hst)(r1:Option Addr)(r2:Nat)(w:World)(hR:PRulesRow w 0 (.slice r1 x.rules.length r2) x.rules)(hn:x.name.length<=24)(al:x.rules.length<=6)(hv:∀r∈x.rules,VRl r):Calls Tryz.prog 72 #[.agg #[.string (R.str x.name),.slice r1 x.rules.length r2]] w (Gives w (zx x)):=by
 have aa:Y ((w.alloc (.cells #[.string (R.str x.name),.slice r1 x.rules.length r2] 146)).heap[w.heap.size]?=some (.cells #[.string (R.str x.name),.slice r1 x.rules.length r2] 146)):=heap_alloc_new _ _
 have c0:=zqW aa.o
 have c1:=zqX aa.o
 have ab:Y (w.grownBy (w.alloc (.cells #[.string (R.str x.name),.slice r1 x.rules.length r2] 146)) none):=zJ _ _ _
 have am:=zE aa.o
 have ad:Y (PRulesRow (w.alloc (.cells #[.string (R.str x.name),.slice r1 x.rules.length r2] 146)) 0 (.slice r1 x.rules.length r2) x.rules):=hR.keep ab.o (zv _ _)
 have l1:=yK zt 1200 x.rules (fun r hr=>zj8 (hv r hr))
 have HV:Y (∀r∈x.rules,VRl r):=hv
 clear hR hv
 have C1:Y (∀W,(w.alloc (.cells #[.string (R.str x.name),.slice r1 x.rules.length r2] 146)).grownBy W none->Calls Tryz.prog 108 #[.string (R.str x.name)] W fun e w'=>∃a k,e = .returned (.slice a (zI x.name).length k)/\Rd w' (.slice a (zI x.name).length k) (zI x.name)/\W.grownBy w' none/\(w.alloc (.cells #[.string (R.str x.name),.slice r1 x.rules.length r2] 146)).grownBy w' none/\w'.cell? ⟨w.heap.size,0,none⟩=some (.string (R.str x.name))/\w'.cell? ⟨w.heap.size,1,none⟩=some (.slice r1 x.rules.length r2)):=fun W hW=>(yy x.name W (by omega)).mono fun e w' ⟨a,k,h1,h2,h3⟩=>⟨a,k,h1,Rd.of_row h2,h3,zA hW h3,z8 (zB aa.o (zA hW h3) (by simp)),z8 (zB aa.o (zA hW h3) (by simp))⟩
 have C2:Y (∀W,(w.alloc (.cells #[.string (R.str x.name),.slice r1 x.rules.length r2] 146)).grownBy W none->Calls Tryz.prog 109 #[.func (.func 110) #[] #[],.slice r1 x.rules.length r2] W fun e w'=>∃a k,e = .returned (.slice a (zL zt x.rules).length k)/\Rd w' (.slice a (zL zt x.rules).length k) (zL zt x.rules)/\W.grownBy w' none/\(w.alloc (.cells #[.string (R.str x.name),.slice r1 x.rules.length r2] 146)).grownBy w' none/\w'.cell? ⟨w.heap.size,0,none⟩=some (.string (R.str x.name))/\w'.cell? ⟨w.heap.size,1,none⟩=some (.slice r1 x.rules.length r2)):=fun W hW=>((let ⟨css,q1,q2⟩:=ad.o.keep hW (zv _ _);zkL x.rules _ css q1 q2 (by omega) HV.o (by omega))).mono fun e w' ⟨a,k,h1,h2,h3⟩=>⟨a,k,h1,Rd.of_row h2,h3,zA hW h3,z8 (zB aa.o (zA hW h3) (by simp)),z8 (zB aa.o (zA hW h3) (by simp))⟩
 have HJ:Y (∀W a1 k1 a2 k2,(w.alloc (.cells #[.string (R.str x.name),.slice r1 x.rules.length r2] 146)).grownBy W none->Rd W (.slice a1 (zI x.name).length k1) (zI x.name)->Rd W (.slice a2 (zL zt x.rules).length k2) (zL zt x.rules)->Calls Tryz.prog 70 #[.slice (some ⟨W.heap.size,0,none⟩) 2 2] (W.alloc (.cells #[.slice a1 (zI x.name).length k1,.slice a2 (zL zt x.rules).length k2] 32)) fun e w'=>Gives w (zx x) e w'/\w'.cell? ⟨w.heap.size,0,none⟩=some (.string (R.str x.name))/\w'.cell? ⟨w.heap.size,1,none⟩=some (.slice r1 x.rules.length r2)):=fun W a1 k1 a2 k2 hW r1 r2=>by
  have h:=xZ hW [.slice a1 (zI x.name).length k1,.slice a2 (zL zt x.rules).length k2] [zI x.name,zL zt x.rules] (.cons r1 (.cons r2 .nil)) (by rw[join2,zW,xa];omega) (by simp)
  rw[show qe [zI x.name,zL zt x.rules]=zx x from join2 _ _] at h
  refine Calls.mono h fun e w' ⟨a,k,h1,h2,h3⟩=>⟨⟨a,k,h1,jm h2 ab.o.size,zA ab.o h3⟩,z8 (zB aa.o h3 (by simp)),z8 (zB aa.o h3 (by simp))⟩
 clear aa ab ad HV l1
 go_enter Tryz.func72,Tryz.ntmps72
 go_wp2_with fail
 generalize(w.alloc (.cells #[.string (R.str x.name),.slice r1 x.rules.length r2] 146))=wa at*
 go_region_held3 (fun W=>W.cell? ⟨w.heap.size,0,none⟩=some (.string (R.str x.name))/\W.cell? ⟨w.heap.size,1,none⟩=some (.slice r1 x.rules.length r2)) (go_keep) (first
  | (go_at_call 108;show Calls _ _ _ (World.drew wa) _;refine(C1.o _ (zQ wa)).mono ?_;rintro e w1 ⟨a1,k1,rfl,r1,g1,G1,ah,ai⟩;have ae:Y (Rd w1 (.slice a1 (zI x.name).length k1) (zI x.name)):=r1;have G1:Y (wa.grownBy w1 none):=G1;clear r1 g1)
  | (go_at_call 109;refine(C2.o _ G1.o).mono ?_;rintro e w2 ⟨a2,k2,rfl,r2,g2,G2,aj,ak⟩;have ag:Y (Rd w2 (.slice a2 (zL zt x.rules).length k2) (zL zt x.rules)):=r2;have af:Y (Rd w2 (.slice a1 (zI x.name).length k1) (zI x.name)):=ae.o.keep g2;have G2:Y (wa.grownBy w2 none):=G2;clear r2 g2 ae G1)
  | (go_at_call 70;refine(HJ.o _ a1 k1 a2 k2 G2.o af.o ag.o).mono ?_;rintro e wZ ⟨⟨aZ,kZ,rfl,hZ,gZ⟩,z0,z1⟩;have HZ:Y (wZ.ownsRow w.heap.size 5 1 (.slice aZ (zx x).length kZ) (zx x).length (Lib.byteCells (zx x))):=hZ;have GZ:Y (w.grownBy wZ none):=gZ;clear hZ gZ))
 all_goals
  go_wp2
  go_ret
  exact⟨aZ,kZ,rfl,HZ.o,GZ.o⟩
structure VPk (x:P.Hst):Prop where
 nl:x.name.length<=24
 rl:x.rules.length<=6
 rules:∀r∈x.rules,VRl r
theorem ziZ {x:P.Hst}(h:VPk x):(zx x).length<=8000:=by
 have l1:=yK zt 1200 x.rules (fun r hr=>zj8 (h.rules r hr))
 have:=h.nl;have:=h.rl
 unfold zx
 rw[zW,xa];omega
theorem zkJ {w:World}(l:List P.Hst)(v:Value)(aa:List (List Value))(ag:w.ownsRow 0 146 2 v l.length aa.flatten)(al:All2 (PHostVal w) aa l)(hn:l.length<=255)(hv:∀x∈l,VPk x)(aq:(zL zx l).length<=900000) :
  Calls Tryz.prog 71 #[.func (.func 72) #[] #[],v] w (Gives w (zL zx l)):=by
 obtain⟨va,vc,rfl⟩:=zP ag
 have HR:Y (w.ownsRow 0 146 2 (.slice va l.length vc) l.length aa.flatten):=ag
 have HA:Y (All2 (PHostVal w) aa l):=al
 have HV:Y (∀x∈l,VPk x):=hv
 have au:Y ((zL zx l).length<=900000):=aq
 clear ag hv aq al
 go_enter Tryz.func71,Tryz.ntmps71
 go_wp2_with fail
 refine(j4 l.length w).mono ?_
 rintro e w0 ⟨a0,k0,rfl,h0,g0⟩
 have aj:Y (w0.ownsRow w.heap.size 5 1 (.slice a0 (zG zx l 0).length k0) (zG zx l 0).length (Lib.byteCells (zG zx l 0))):=h0
 have ah:Y (w.grownBy w0 none):=g0
 clear h0 g0
 go_wp2_with fail
 go_loopw [5,13] (fun sv iv wr=>∃i:Nat,i<=l.length/\iv = .int .i64 i/\(∃a k,sv = .slice a (zG zx l i).length k/\Y (wr.ownsRow w.heap.size 5 1 (.slice a (zG zx l i).length k) (zG zx l i).length (Lib.byteCells (zG zx l i))))/\Y (w.grownBy wr none)) (fun _ iv _=>l.length - (intOf iv).toNat)
 case atStart=>exact⟨0,zl _,rfl,⟨a0,k0,rfl,aj⟩,ah⟩
 case round=>
  obtain⟨i,aA,rfl,⟨a,k,rfl,HO⟩,HG⟩:=hrel
  clear aj ah
  by_cases af:i<l.length
  ·have az:(i:Int)<l.length:=by omega
   obtain⟨gt,ax,ap,_,ay⟩:=World.ownsRow.form HR.o (by omega)
   simp only[qc] at ap
   obtain⟨rfl,_,rfl⟩:=ap
   have ar:=zO HR.o HG.o (fun k hk c=>by cases c)
   obtain⟨ce,am,ao⟩:=kv HA.o i af
   have an:=am.keep HG.o (zv _ _)
   have ae:∀j,j<2->wr.cell? ⟨gt,i*2+j,none⟩=ce[j]?:=fun j hj=>by
    rw[xd ar (i*2+j) (by omega)];exact ao j hj
   have ab:=HV.o l[i] (List.getElem_mem af)
   have ad:Y (qe [zG zx l i,zx l[i]]=zG zx l (i+1)):=yO zx l i af
   have aB:(zG zx l (i+1)).length<=900000:=zp (yv zx l (i+1)) au.o
   generalize l[i]=x at*
   obtain⟨vR,rfl,hR⟩:=id an
   obtain⟨r1,r2,rfl⟩:=vC hR
   have av:wr.cell? ⟨gt,i*2,none⟩=some (.string (R.str x.name)):=ae 0 (by omega)
   have aw:wr.cell? ⟨gt,i*2+1,none⟩=some (.slice r1 x.rules.length r2):=ae 1 (by omega)
   have gB:wr.grownBy (wr.alloc (.cells #[.string (R.str x.name),.slice r1 x.rules.length r2] 146)) none:=zJ _ _ none
   have HI:Y (Calls Tryz.prog 72 #[.agg #[.string (R.str x.name),.slice r1 x.rules.length r2]] (wr.alloc (.cells #[.string (R.str x.name),.slice r1 x.rules.length r2] 146)) (Gives (wr.alloc (.cells #[.string (R.str x.name),.slice r1 x.rules.length r2] 146)) (zx x))):=zl2 x r1 r2 (wr.alloc (.cells #[.string (R.str x.name),.slice r1 x.rules.length r2] 146)) (hR.keep gB (zv _ _)) ab.nl ab.rl ab.rules
   have ai:=J (zA HG.o gB)
   have R0:Y (Rd (wr.alloc (.cells #[.string (R.str x.name),.slice r1 x.rules.length r2] 146)) (.slice a (zG zx l i).length k) (zG zx l i)):=(Rd.of_row HO.o).keep gB
   clear HV HR HO HG ab HA ar am an ao ae gB hR
   go_wp2_with fail
   refine HI.o.mono ?_
   rintro e w1 ⟨a1,k1,rfl,h1,g1⟩
   have R1:Y (Rd w1 (.slice a1 (zx x).length k1) (zx x)):=Rd.of_row h1
   have ak:Y (Rd w1 (.slice a (zG zx l i).length k) (zG zx l i)):=R0.o.keep g1
   have G1:=J (zA ai.o g1)
   have HJ:Y (Calls Tryz.prog 70 #[.slice (some ⟨w1.heap.size,0,none⟩) 2 2] (w1.alloc (.cells #[.slice a (zG zx l i).length k,.slice a1 (zx x).length k1] 32)) (Gives w (zG zx l (i+1)))):=by
    have h:=xZ G1.o [.slice a (zG zx l i).length k,.slice a1 (zx x).length k1] [zG zx l i,zx x] (.cons ak.o (.cons R1.o .nil)) (by rw[ad.o];omega) (by simp)
    rw[ad.o] at h
    exact h
   clear h1 g1 R0 ak R1 G1 ai HI ad
   go_wp2_with fail
   refine HJ.o.mono ?_
   rintro e w2 ⟨a2,k2,rfl,h2,g2⟩
   have H2:Y (w2.ownsRow w.heap.size 5 1 (.slice a2 (zG zx l (i+1)).length k2) (zG zx l (i+1)).length (Lib.byteCells (zG zx l (i+1)))):=h2
   have G2:Y (w.grownBy w2 none):=g2
   clear h2 g2 HJ
   go_wp2
   go_roundw
   case rel=>exact⟨i+1,by omega,by go_num,⟨a2,k2,rfl,H2⟩,G2⟩
   case measure=>simp[intOf];omega
  ·have hE:i=l.length:=by omega
   subst hE
   have HC:Y (zG zx l l.length=zL zx l):=ye zx l
   rw[HC.o] at HO ⊢
   go_wp2
   go_ret
   exact⟨a,k,rfl,HO.o,HG.o⟩
end Go.Proofs.YtfocdefchbnkpaaGreatDoor
