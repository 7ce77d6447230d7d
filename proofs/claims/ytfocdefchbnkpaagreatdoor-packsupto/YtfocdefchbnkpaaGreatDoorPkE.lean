/- Packing, as the program does it: a rule. -/
import Derived.Test.YtfocdefchbnkpaaGreatDoorAli
import Derived.Test.YtfocdefchbnkpaaGreatDoorPkA
import Derived.Laws.Cover1
import Derived.Laws.BitsAllLaws
import Derived.Lib.SlBytesConst
set_option maxRecDepth 100000
set_option maxHeartbeats 20000000
namespace Go.Proofs.YtfocdefchbnkpaaGreatDoor
open Go.RowKit
theorem yR {α:Type}(f:α->List UInt8)(B:Nat)(l:List α)(h:∀x∈l,(f x).length<=B):(zQ f l).length<=1+l.length*B:=by
 unfold zQ
 rw[zoF]
 have:=R.flat_len f B l h
 omega
theorem zt1 {m:P.Mt}(h:VMt m):(K.mt m).length<=60:=by
 unfold K.mt
 have h1:=h.nl
 have h2:=h.vl
 rw[zh,qw]
 split
 ·rw[zoF,qw];omega
 ·simp;omega
theorem zt0 {t:List UInt8×Int}(h:VTg t):(K.tg t).length<=60:=by
 unfold K.tg;rw[zh,qw,kU];have:=h.ul;omega
theorem zsZ {t:List UInt8×List UInt8}(h:VSt t):(K.st t).length<=60:=by
 unfold K.st;rw[zh,qw,qw];have:=h.nl;have:=h.vl;omega
theorem zqS (s:List UInt8):xv (!decide (s=[])) s=wm s:=by
 unfold xv wm
 by_cases h:s=[] <;> simp[h]
theorem zj1 (s:List UInt8):(R.str s).toList.isEmpty=decide (s=[]):=by
 rw[ByteArray.toList_eq,R.str_toList]
 cases s <;> rfl
theorem join7 (a b c d e f g:List UInt8):xP [a,b,c,d,e,f,g]=a++(b++(c++(d++(e++(f++g))))):=by unfold xP;simp
theorem zoH (r:P.Rl)(m1 t1 x1 d1:Option Addr)(m2 t2 x2 d2:Nat)(w:World)(hM:w.ownsRow 0 276 3 (.slice m1 r.ms.length m2) r.ms.length (xO r.ms))(aD:w.ownsRow 0 285 2 (.slice t1 r.tg.length t2) r.tg.length (qB r.tg))(hS:w.ownsRow 0 280 2 (.slice x1 r.sets.length x2) r.sets.length (qH r.sets))(hD:w.ownsRow 0 9 1 (.slice d1 r.drops.length d2) r.drops.length (zf r.drops))(hv:VRl r):Calls Tryz.prog 110 #[.agg #[.int .i64 r.number,.string (R.str r.path),.slice m1 r.ms.length m2,.slice t1 r.tg.length t2,.string (R.str r.rep),.slice x1 r.sets.length x2,.slice d1 r.drops.length d2]] w (Gives w (qL r)):=by
 have aa:Y ((w.alloc (.cells #[.int .i64 r.number,.string (R.str r.path),.slice m1 r.ms.length m2,.slice t1 r.tg.length t2,.string (R.str r.rep),.slice x1 r.sets.length x2,.slice d1 r.drops.length d2] 213)).heap[w.heap.size]?=some (.cells #[.int .i64 r.number,.string (R.str r.path),.slice m1 r.ms.length m2,.slice t1 r.tg.length t2,.string (R.str r.rep),.slice x1 r.sets.length x2,.slice d1 r.drops.length d2] 213)):=heap_alloc_new _ _
 have c0:=zu9 aa.o
 have c1:=zu7 aa.o
 have c2:=zuJ aa.o
 have c3:=ztQ aa.o
 have c4:=ztV aa.o
 have c5:=zu2 aa.o
 have c6:=zu6 aa.o
 have ab:Y (w.grownBy (w.alloc (.cells #[.int .i64 r.number,.string (R.str r.path),.slice m1 r.ms.length m2,.slice t1 r.tg.length t2,.string (R.str r.rep),.slice x1 r.sets.length x2,.slice d1 r.drops.length d2] 213)) none):=zL _ _ _
 have bH:=zI aa.o
 have HM:=J (zV hM ab.o (fun k hk c=>by cases c))
 have af:=J (zV aD ab.o (fun k hk c=>by cases c))
 have ae:=J (zV hS ab.o (fun k hk c=>by cases c))
 have ad:Y ((w.alloc (.cells #[.int .i64 r.number,.string (R.str r.path),.slice m1 r.ms.length m2,.slice t1 r.tg.length t2,.string (R.str r.rep),.slice x1 r.sets.length x2,.slice d1 r.drops.length d2] 213)).ownsRow 0 9 1 (.slice d1 r.drops.length d2) r.drops.length (r.drops.map fun s=>[Value.string (R.str s)]).flatten):=strRow1 (zV hD ab.o (fun k hk c=>by cases c))
 have hb:=zj1 r.rep
 have l1:(zQ K.mt r.ms).length<=200:=by have:=yR K.mt 60 r.ms (fun x hx=>zt1 (hv.ms x hx));have:=hv.ml;omega
 have l2:(zQ K.tg r.tg).length<=300:=by have:=yR K.tg 60 r.tg (fun x hx=>zt0 (hv.tg x hx));have:=hv.tl;omega
 have l3:(zQ K.st r.sets).length<=200:=by have:=yR K.st 60 r.sets (fun x hx=>zsZ (hv.sets x hx));have:=hv.sl;omega
 have l4:(zQ zJ r.drops).length<=200:=by have:=yR zJ 60 r.drops (fun x hx=>by rw[qw];have:=(hv.drops x hx).nl;omega);have:=hv.dl;omega
 have l5:r.rep.length<=24:=by rcases hv.rep with h | h;rw[h];simp;exact h.2
 have l6:=hv.pl
 have hR:=zqS r.rep
 have HV:Y (VRl r):=hv
 clear hM aD hS hD hv
 have C1:Y (∀W,(w.alloc (.cells #[.int .i64 r.number,.string (R.str r.path),.slice m1 r.ms.length m2,.slice t1 r.tg.length t2,.string (R.str r.rep),.slice x1 r.sets.length x2,.slice d1 r.drops.length d2] 213)).grownBy W none->Calls Tryz.prog 111 #[.int .i64 r.number] W fun e w'=>∃a k,e = .returned (.slice a (qe r.number).length k)/\Rd w' (.slice a (qe r.number).length k) (qe r.number)/\W.grownBy w' none/\(w.alloc (.cells #[.int .i64 r.number,.string (R.str r.path),.slice m1 r.ms.length m2,.slice t1 r.tg.length t2,.string (R.str r.rep),.slice x1 r.sets.length x2,.slice d1 r.drops.length d2] 213)).grownBy w' none/\w'.cell? ⟨w.heap.size,0,none⟩=some (.int .i64 r.number)/\w'.cell? ⟨w.heap.size,1,none⟩=some (.string (R.str r.path))/\w'.cell? ⟨w.heap.size,2,none⟩=some (.slice m1 r.ms.length m2)/\w'.cell? ⟨w.heap.size,3,none⟩=some (.slice t1 r.tg.length t2)/\w'.cell? ⟨w.heap.size,4,none⟩=some (.string (R.str r.rep))/\w'.cell? ⟨w.heap.size,5,none⟩=some (.slice x1 r.sets.length x2)/\w'.cell? ⟨w.heap.size,6,none⟩=some (.slice d1 r.drops.length d2)):=fun W hW=>(zjI r.number W HV.o.num.1).mono fun e w' ⟨a,k,h1,h2,h3⟩=>⟨a,k,h1,Rd.of_row h2,h3,zD hW h3,zB (zF aa.o (zD hW h3) (by simp)),zB (zF aa.o (zD hW h3) (by simp)),zB (zF aa.o (zD hW h3) (by simp)),zB (zF aa.o (zD hW h3) (by simp)),zB (zF aa.o (zD hW h3) (by simp)),zB (zF aa.o (zD hW h3) (by simp)),zB (zF aa.o (zD hW h3) (by simp))⟩
 have C2:Y (∀W,(w.alloc (.cells #[.int .i64 r.number,.string (R.str r.path),.slice m1 r.ms.length m2,.slice t1 r.tg.length t2,.string (R.str r.rep),.slice x1 r.sets.length x2,.slice d1 r.drops.length d2] 213)).grownBy W none->Calls Tryz.prog 108 #[.string (R.str r.path)] W fun e w'=>∃a k,e = .returned (.slice a (zJ r.path).length k)/\Rd w' (.slice a (zJ r.path).length k) (zJ r.path)/\W.grownBy w' none/\(w.alloc (.cells #[.int .i64 r.number,.string (R.str r.path),.slice m1 r.ms.length m2,.slice t1 r.tg.length t2,.string (R.str r.rep),.slice x1 r.sets.length x2,.slice d1 r.drops.length d2] 213)).grownBy w' none/\w'.cell? ⟨w.heap.size,0,none⟩=some (.int .i64 r.number)/\w'.cell? ⟨w.heap.size,1,none⟩=some (.string (R.str r.path))/\w'.cell? ⟨w.heap.size,2,none⟩=some (.slice m1 r.ms.length m2)/\w'.cell? ⟨w.heap.size,3,none⟩=some (.slice t1 r.tg.length t2)/\w'.cell? ⟨w.heap.size,4,none⟩=some (.string (R.str r.rep))/\w'.cell? ⟨w.heap.size,5,none⟩=some (.slice x1 r.sets.length x2)/\w'.cell? ⟨w.heap.size,6,none⟩=some (.slice d1 r.drops.length d2)):=fun W hW=>(vZ r.path W (by omega)).mono fun e w' ⟨a,k,h1,h2,h3⟩=>⟨a,k,h1,Rd.of_row h2,h3,zD hW h3,zB (zF aa.o (zD hW h3) (by simp)),zB (zF aa.o (zD hW h3) (by simp)),zB (zF aa.o (zD hW h3) (by simp)),zB (zF aa.o (zD hW h3) (by simp)),zB (zF aa.o (zD hW h3) (by simp)),zB (zF aa.o (zD hW h3) (by simp)),zB (zF aa.o (zD hW h3) (by simp))⟩
 have C3:Y (∀W,(w.alloc (.cells #[.int .i64 r.number,.string (R.str r.path),.slice m1 r.ms.length m2,.slice t1 r.tg.length t2,.string (R.str r.rep),.slice x1 r.sets.length x2,.slice d1 r.drops.length d2] 213)).grownBy W none->Calls Tryz.prog 162 #[.func (.func 163) #[] #[],.slice m1 r.ms.length m2] W fun e w'=>∃a k,e = .returned (.slice a (zQ K.mt r.ms).length k)/\Rd w' (.slice a (zQ K.mt r.ms).length k) (zQ K.mt r.ms)/\W.grownBy w' none/\(w.alloc (.cells #[.int .i64 r.number,.string (R.str r.path),.slice m1 r.ms.length m2,.slice t1 r.tg.length t2,.string (R.str r.rep),.slice x1 r.sets.length x2,.slice d1 r.drops.length d2] 213)).grownBy w' none/\w'.cell? ⟨w.heap.size,0,none⟩=some (.int .i64 r.number)/\w'.cell? ⟨w.heap.size,1,none⟩=some (.string (R.str r.path))/\w'.cell? ⟨w.heap.size,2,none⟩=some (.slice m1 r.ms.length m2)/\w'.cell? ⟨w.heap.size,3,none⟩=some (.slice t1 r.tg.length t2)/\w'.cell? ⟨w.heap.size,4,none⟩=some (.string (R.str r.rep))/\w'.cell? ⟨w.heap.size,5,none⟩=some (.slice x1 r.sets.length x2)/\w'.cell? ⟨w.heap.size,6,none⟩=some (.slice d1 r.drops.length d2)):=fun W hW=>(zo6 r.ms _ (zV HM.o hW (fun k hk c=>by cases c)) (by have:=HV.o.ml;omega) (fun x hx=>⟨by have:=(HV.o.ms x hx).nl;omega,by have:=(HV.o.ms x hx).vl;omega⟩) (by omega)).mono fun e w' ⟨a,k,h1,h2,h3⟩=>⟨a,k,h1,Rd.of_row h2,h3,zD hW h3,zB (zF aa.o (zD hW h3) (by simp)),zB (zF aa.o (zD hW h3) (by simp)),zB (zF aa.o (zD hW h3) (by simp)),zB (zF aa.o (zD hW h3) (by simp)),zB (zF aa.o (zD hW h3) (by simp)),zB (zF aa.o (zD hW h3) (by simp)),zB (zF aa.o (zD hW h3) (by simp))⟩
 have C4:Y (∀W,(w.alloc (.cells #[.int .i64 r.number,.string (R.str r.path),.slice m1 r.ms.length m2,.slice t1 r.tg.length t2,.string (R.str r.rep),.slice x1 r.sets.length x2,.slice d1 r.drops.length d2] 213)).grownBy W none->Calls Tryz.prog 164 #[.func (.func 165) #[] #[],.slice t1 r.tg.length t2] W fun e w'=>∃a k,e = .returned (.slice a (zQ K.tg r.tg).length k)/\Rd w' (.slice a (zQ K.tg r.tg).length k) (zQ K.tg r.tg)/\W.grownBy w' none/\(w.alloc (.cells #[.int .i64 r.number,.string (R.str r.path),.slice m1 r.ms.length m2,.slice t1 r.tg.length t2,.string (R.str r.rep),.slice x1 r.sets.length x2,.slice d1 r.drops.length d2] 213)).grownBy w' none/\w'.cell? ⟨w.heap.size,0,none⟩=some (.int .i64 r.number)/\w'.cell? ⟨w.heap.size,1,none⟩=some (.string (R.str r.path))/\w'.cell? ⟨w.heap.size,2,none⟩=some (.slice m1 r.ms.length m2)/\w'.cell? ⟨w.heap.size,3,none⟩=some (.slice t1 r.tg.length t2)/\w'.cell? ⟨w.heap.size,4,none⟩=some (.string (R.str r.rep))/\w'.cell? ⟨w.heap.size,5,none⟩=some (.slice x1 r.sets.length x2)/\w'.cell? ⟨w.heap.size,6,none⟩=some (.slice d1 r.drops.length d2)):=fun W hW=>(zn3 r.tg _ (zV af.o hW (fun k hk c=>by cases c)) (by have:=HV.o.tl;omega) (fun x hx=>⟨by have:=(HV.o.tg x hx).ul;omega,by have:=(HV.o.tg x hx).lo;omega⟩) (by omega)).mono fun e w' ⟨a,k,h1,h2,h3⟩=>⟨a,k,h1,Rd.of_row h2,h3,zD hW h3,zB (zF aa.o (zD hW h3) (by simp)),zB (zF aa.o (zD hW h3) (by simp)),zB (zF aa.o (zD hW h3) (by simp)),zB (zF aa.o (zD hW h3) (by simp)),zB (zF aa.o (zD hW h3) (by simp)),zB (zF aa.o (zD hW h3) (by simp)),zB (zF aa.o (zD hW h3) (by simp))⟩
 have C5:Y (∀W,(w.alloc (.cells #[.int .i64 r.number,.string (R.str r.path),.slice m1 r.ms.length m2,.slice t1 r.tg.length t2,.string (R.str r.rep),.slice x1 r.sets.length x2,.slice d1 r.drops.length d2] 213)).grownBy W none->Calls Tryz.prog 166 #[.bool (!decide (r.rep=[])),.string (R.str r.rep)] W fun e w'=>∃a k,e = .returned (.slice a (xv (!decide (r.rep=[])) r.rep).length k)/\Rd w' (.slice a (xv (!decide (r.rep=[])) r.rep).length k) (xv (!decide (r.rep=[])) r.rep)/\W.grownBy w' none/\(w.alloc (.cells #[.int .i64 r.number,.string (R.str r.path),.slice m1 r.ms.length m2,.slice t1 r.tg.length t2,.string (R.str r.rep),.slice x1 r.sets.length x2,.slice d1 r.drops.length d2] 213)).grownBy w' none/\w'.cell? ⟨w.heap.size,0,none⟩=some (.int .i64 r.number)/\w'.cell? ⟨w.heap.size,1,none⟩=some (.string (R.str r.path))/\w'.cell? ⟨w.heap.size,2,none⟩=some (.slice m1 r.ms.length m2)/\w'.cell? ⟨w.heap.size,3,none⟩=some (.slice t1 r.tg.length t2)/\w'.cell? ⟨w.heap.size,4,none⟩=some (.string (R.str r.rep))/\w'.cell? ⟨w.heap.size,5,none⟩=some (.slice x1 r.sets.length x2)/\w'.cell? ⟨w.heap.size,6,none⟩=some (.slice d1 r.drops.length d2)):=fun W hW=>(zbE (!decide (r.rep=[])) r.rep W (by omega)).mono fun e w' ⟨a,k,h1,h2,h3⟩=>⟨a,k,h1,Rd.of_row h2,h3,zD hW h3,zB (zF aa.o (zD hW h3) (by simp)),zB (zF aa.o (zD hW h3) (by simp)),zB (zF aa.o (zD hW h3) (by simp)),zB (zF aa.o (zD hW h3) (by simp)),zB (zF aa.o (zD hW h3) (by simp)),zB (zF aa.o (zD hW h3) (by simp)),zB (zF aa.o (zD hW h3) (by simp))⟩
 have C6:Y (∀W,(w.alloc (.cells #[.int .i64 r.number,.string (R.str r.path),.slice m1 r.ms.length m2,.slice t1 r.tg.length t2,.string (R.str r.rep),.slice x1 r.sets.length x2,.slice d1 r.drops.length d2] 213)).grownBy W none->Calls Tryz.prog 167 #[.func (.func 168) #[] #[],.slice x1 r.sets.length x2] W fun e w'=>∃a k,e = .returned (.slice a (zQ K.st r.sets).length k)/\Rd w' (.slice a (zQ K.st r.sets).length k) (zQ K.st r.sets)/\W.grownBy w' none/\(w.alloc (.cells #[.int .i64 r.number,.string (R.str r.path),.slice m1 r.ms.length m2,.slice t1 r.tg.length t2,.string (R.str r.rep),.slice x1 r.sets.length x2,.slice d1 r.drops.length d2] 213)).grownBy w' none/\w'.cell? ⟨w.heap.size,0,none⟩=some (.int .i64 r.number)/\w'.cell? ⟨w.heap.size,1,none⟩=some (.string (R.str r.path))/\w'.cell? ⟨w.heap.size,2,none⟩=some (.slice m1 r.ms.length m2)/\w'.cell? ⟨w.heap.size,3,none⟩=some (.slice t1 r.tg.length t2)/\w'.cell? ⟨w.heap.size,4,none⟩=some (.string (R.str r.rep))/\w'.cell? ⟨w.heap.size,5,none⟩=some (.slice x1 r.sets.length x2)/\w'.cell? ⟨w.heap.size,6,none⟩=some (.slice d1 r.drops.length d2)):=fun W hW=>(zmM r.sets _ (zV ae.o hW (fun k hk c=>by cases c)) (by have:=HV.o.sl;omega) (fun x hx=>⟨by have:=(HV.o.sets x hx).nl;omega,by have:=(HV.o.sets x hx).vl;omega⟩) (by omega)).mono fun e w' ⟨a,k,h1,h2,h3⟩=>⟨a,k,h1,Rd.of_row h2,h3,zD hW h3,zB (zF aa.o (zD hW h3) (by simp)),zB (zF aa.o (zD hW h3) (by simp)),zB (zF aa.o (zD hW h3) (by simp)),zB (zF aa.o (zD hW h3) (by simp)),zB (zF aa.o (zD hW h3) (by simp)),zB (zF aa.o (zD hW h3) (by simp)),zB (zF aa.o (zD hW h3) (by simp))⟩
 have C7:Y (∀W,(w.alloc (.cells #[.int .i64 r.number,.string (R.str r.path),.slice m1 r.ms.length m2,.slice t1 r.tg.length t2,.string (R.str r.rep),.slice x1 r.sets.length x2,.slice d1 r.drops.length d2] 213)).grownBy W none->Calls Tryz.prog 169 #[.func (.func 108) #[] #[],.slice d1 r.drops.length d2] W fun e w'=>∃a k,e = .returned (.slice a (zQ zJ r.drops).length k)/\Rd w' (.slice a (zQ zJ r.drops).length k) (zQ zJ r.drops)/\W.grownBy w' none/\(w.alloc (.cells #[.int .i64 r.number,.string (R.str r.path),.slice m1 r.ms.length m2,.slice t1 r.tg.length t2,.string (R.str r.rep),.slice x1 r.sets.length x2,.slice d1 r.drops.length d2] 213)).grownBy w' none/\w'.cell? ⟨w.heap.size,0,none⟩=some (.int .i64 r.number)/\w'.cell? ⟨w.heap.size,1,none⟩=some (.string (R.str r.path))/\w'.cell? ⟨w.heap.size,2,none⟩=some (.slice m1 r.ms.length m2)/\w'.cell? ⟨w.heap.size,3,none⟩=some (.slice t1 r.tg.length t2)/\w'.cell? ⟨w.heap.size,4,none⟩=some (.string (R.str r.rep))/\w'.cell? ⟨w.heap.size,5,none⟩=some (.slice x1 r.sets.length x2)/\w'.cell? ⟨w.heap.size,6,none⟩=some (.slice d1 r.drops.length d2)):=fun W hW=>(zmO r.drops _ (zV ad.o hW (fun k hk c=>by cases c)) (by have:=HV.o.dl;omega) (fun x hx=>by have:=(HV.o.drops x hx).nl;omega) (by omega)).mono fun e w' ⟨a,k,h1,h2,h3⟩=>⟨a,k,h1,Rd.of_row h2,h3,zD hW h3,zB (zF aa.o (zD hW h3) (by simp)),zB (zF aa.o (zD hW h3) (by simp)),zB (zF aa.o (zD hW h3) (by simp)),zB (zF aa.o (zD hW h3) (by simp)),zB (zF aa.o (zD hW h3) (by simp)),zB (zF aa.o (zD hW h3) (by simp)),zB (zF aa.o (zD hW h3) (by simp))⟩
 have HJ:Y (∀W a1 k1 a2 k2 a3 k3 a4 k4 a5 k5 a6 k6 a7 k7,(w.alloc (.cells #[.int .i64 r.number,.string (R.str r.path),.slice m1 r.ms.length m2,.slice t1 r.tg.length t2,.string (R.str r.rep),.slice x1 r.sets.length x2,.slice d1 r.drops.length d2] 213)).grownBy W none->Rd W (.slice a1 (qe r.number).length k1) (qe r.number)->Rd W (.slice a2 (zJ r.path).length k2) (zJ r.path)->Rd W (.slice a3 (zQ K.mt r.ms).length k3) (zQ K.mt r.ms)->Rd W (.slice a4 (zQ K.tg r.tg).length k4) (zQ K.tg r.tg)->Rd W (.slice a5 (xv (!decide (r.rep=[])) r.rep).length k5) (xv (!decide (r.rep=[])) r.rep)->Rd W (.slice a6 (zQ K.st r.sets).length k6) (zQ K.st r.sets)->Rd W (.slice a7 (zQ zJ r.drops).length k7) (zQ zJ r.drops)->Calls Tryz.prog 70 #[.slice (some ⟨W.heap.size,0,none⟩) 7 7] (W.alloc (.cells #[.slice a1 (qe r.number).length k1,.slice a2 (zJ r.path).length k2,.slice a3 (zQ K.mt r.ms).length k3,.slice a4 (zQ K.tg r.tg).length k4,.slice a5 (xv (!decide (r.rep=[])) r.rep).length k5,.slice a6 (zQ K.st r.sets).length k6,.slice a7 (zQ zJ r.drops).length k7] 32)) fun e w'=>Gives w (qL r) e w'/\w'.cell? ⟨w.heap.size,0,none⟩=some (.int .i64 r.number)/\w'.cell? ⟨w.heap.size,1,none⟩=some (.string (R.str r.path))/\w'.cell? ⟨w.heap.size,2,none⟩=some (.slice m1 r.ms.length m2)/\w'.cell? ⟨w.heap.size,3,none⟩=some (.slice t1 r.tg.length t2)/\w'.cell? ⟨w.heap.size,4,none⟩=some (.string (R.str r.rep))/\w'.cell? ⟨w.heap.size,5,none⟩=some (.slice x1 r.sets.length x2)/\w'.cell? ⟨w.heap.size,6,none⟩=some (.slice d1 r.drops.length d2)):=fun W a1 k1 a2 k2 a3 k3 a4 k4 a5 k5 a6 k6 a7 k7 hW r1 r2 r3 r4 r5 r6 r7=>by
  have h:=ye hW [.slice a1 (qe r.number).length k1,.slice a2 (zJ r.path).length k2,.slice a3 (zQ K.mt r.ms).length k3,.slice a4 (zQ K.tg r.tg).length k4,.slice a5 (xv (!decide (r.rep=[])) r.rep).length k5,.slice a6 (zQ K.st r.sets).length k6,.slice a7 (zQ zJ r.drops).length k7] [qe r.number,zJ r.path,zQ K.mt r.ms,zQ K.tg r.tg,xv (!decide (r.rep=[])) r.rep,zQ K.st r.sets,zQ zJ r.drops] (.cons r1 (.cons r2 (.cons r3 (.cons r4 (.cons r5 (.cons r6 (.cons r7 .nil))))))) (by rw[join7];have:=zj8 (!decide (r.rep=[])) r.rep;simp only[zh,qw,kU];omega) (by simp)
  rw[show xP [qe r.number,zJ r.path,zQ K.mt r.ms,zQ K.tg r.tg,xv (!decide (r.rep=[])) r.rep,zQ K.st r.sets,zQ zJ r.drops]=qL r by rw[join7,hR];rfl] at h
  refine Calls.mono h fun e w' ⟨a,k,h1,h2,h3⟩=>⟨⟨a,k,h1,kH h2 ab.o.size,zD ab.o h3⟩,zB (zF aa.o h3 (by simp)),zB (zF aa.o h3 (by simp)),zB (zF aa.o h3 (by simp)),zB (zF aa.o h3 (by simp)),zB (zF aa.o h3 (by simp)),zB (zF aa.o h3 (by simp)),zB (zF aa.o h3 (by simp))⟩
 clear aa ab HM af ae ad HV hR l1 l2 l3 l4 l5 l6
 go_enter Tryz.func110,Tryz.ntmps110
 go_wp2_with fail
 generalize(w.alloc (.cells #[.int .i64 r.number,.string (R.str r.path),.slice m1 r.ms.length m2,.slice t1 r.tg.length t2,.string (R.str r.rep),.slice x1 r.sets.length x2,.slice d1 r.drops.length d2] 213))=wa at*
 go_region_held3 (fun W=>W.cell? ⟨w.heap.size,0,none⟩=some (.int .i64 r.number)/\W.cell? ⟨w.heap.size,1,none⟩=some (.string (R.str r.path))/\W.cell? ⟨w.heap.size,2,none⟩=some (.slice m1 r.ms.length m2)/\W.cell? ⟨w.heap.size,3,none⟩=some (.slice t1 r.tg.length t2)/\W.cell? ⟨w.heap.size,4,none⟩=some (.string (R.str r.rep))/\W.cell? ⟨w.heap.size,5,none⟩=some (.slice x1 r.sets.length x2)/\W.cell? ⟨w.heap.size,6,none⟩=some (.slice d1 r.drops.length d2)) (go_keep) (first
  | (go_at_call 111;show Calls _ _ _ (World.drew wa) _;refine(C1.o _ (zg wa)).mono ?_;rintro e w1 ⟨a1,k1,rfl,r1,g1,G1,aL,aM,aN,aO,aP,aQ,aR⟩;have ag:Y (Rd w1 (.slice a1 (qe r.number).length k1) (qe r.number)):=r1;have G1:Y (wa.grownBy w1 none):=G1;clear r1 g1)
  | (go_at_call 108;refine(C2.o _ G1.o).mono ?_;rintro e w2 ⟨a2,k2,rfl,r2,g2,G2,aS,aT,aU,aV,aW,aX,aY⟩;have am:Y (Rd w2 (.slice a2 (zJ r.path).length k2) (zJ r.path)):=r2;have ah:Y (Rd w2 (.slice a1 (qe r.number).length k1) (qe r.number)):=ag.o.keep g2;have G2:Y (wa.grownBy w2 none):=G2;clear r2 g2 ag G1)
  | (go_at_call 162;refine(C3.o _ G2.o).mono ?_;rintro e w3 ⟨a3,k3,rfl,r3,g3,G3,a0,a8,a9,ba,bb,bc,bd⟩;have ar:Y (Rd w3 (.slice a3 (zQ K.mt r.ms).length k3) (zQ K.mt r.ms)):=r3;have ai:Y (Rd w3 (.slice a1 (qe r.number).length k1) (qe r.number)):=ah.o.keep g3;have an:Y (Rd w3 (.slice a2 (zJ r.path).length k2) (zJ r.path)):=am.o.keep g3;have G3:Y (wa.grownBy w3 none):=G3;clear r3 g3 ah am G2)
  | (go_at_call 164;refine(C4.o _ G3.o).mono ?_;rintro e w4 ⟨a4,k4,rfl,r4,g4,G4,be,bf,bg,bh,bi,bj,bk⟩;have ax:Y (Rd w4 (.slice a4 (zQ K.tg r.tg).length k4) (zQ K.tg r.tg)):=r4;have aj:Y (Rd w4 (.slice a1 (qe r.number).length k1) (qe r.number)):=ai.o.keep g4;have ao:Y (Rd w4 (.slice a2 (zJ r.path).length k2) (zJ r.path)):=an.o.keep g4;have au:Y (Rd w4 (.slice a3 (zQ K.mt r.ms).length k3) (zQ K.mt r.ms)):=ar.o.keep g4;have G4:Y (wa.grownBy w4 none):=G4;clear r4 g4 ai an ar G3)
  | (go_at_call 166;refine(C5.o _ G4.o).mono ?_;rintro e w5 ⟨a5,k5,rfl,r5,g5,G5,bl,bm,bn,bo,bp,bq,br⟩;have aA:Y (Rd w5 (.slice a5 (xv (!decide (r.rep=[])) r.rep).length k5) (xv (!decide (r.rep=[])) r.rep)):=r5;have ak:Y (Rd w5 (.slice a1 (qe r.number).length k1) (qe r.number)):=aj.o.keep g5;have ap:Y (Rd w5 (.slice a2 (zJ r.path).length k2) (zJ r.path)):=ao.o.keep g5;have av:Y (Rd w5 (.slice a3 (zQ K.mt r.ms).length k3) (zQ K.mt r.ms)):=au.o.keep g5;have ay:Y (Rd w5 (.slice a4 (zQ K.tg r.tg).length k4) (zQ K.tg r.tg)):=ax.o.keep g5;have G5:Y (wa.grownBy w5 none):=G5;clear r5 g5 aj ao au ax G4)
  | (go_at_call 167;refine(C6.o _ G5.o).mono ?_;rintro e w6 ⟨a6,k6,rfl,r6,g6,G6,bs,bt,bu,bv,bw,bx,bz⟩;have aC:Y (Rd w6 (.slice a6 (zQ K.st r.sets).length k6) (zQ K.st r.sets)):=r6;have al:Y (Rd w6 (.slice a1 (qe r.number).length k1) (qe r.number)):=ak.o.keep g6;have aq:Y (Rd w6 (.slice a2 (zJ r.path).length k2) (zJ r.path)):=ap.o.keep g6;have aw:Y (Rd w6 (.slice a3 (zQ K.mt r.ms).length k3) (zQ K.mt r.ms)):=av.o.keep g6;have az:Y (Rd w6 (.slice a4 (zQ K.tg r.tg).length k4) (zQ K.tg r.tg)):=ay.o.keep g6;have aB:Y (Rd w6 (.slice a5 (xv (!decide (r.rep=[])) r.rep).length k5) (xv (!decide (r.rep=[])) r.rep)):=aA.o.keep g6;have G6:Y (wa.grownBy w6 none):=G6;clear r6 g6 ak ap av ay aA G5)
  | (go_at_call 169;refine(C7.o _ G6.o).mono ?_;rintro e w7 ⟨a7,k7,rfl,r7,g7,G7,bA,bB,bC,bD,bE,bF,bG⟩;have aK:Y (Rd w7 (.slice a7 (zQ zJ r.drops).length k7) (zQ zJ r.drops)):=r7;have aE:Y (Rd w7 (.slice a1 (qe r.number).length k1) (qe r.number)):=al.o.keep g7;have aF:Y (Rd w7 (.slice a2 (zJ r.path).length k2) (zJ r.path)):=aq.o.keep g7;have aG:Y (Rd w7 (.slice a3 (zQ K.mt r.ms).length k3) (zQ K.mt r.ms)):=aw.o.keep g7;have aH:Y (Rd w7 (.slice a4 (zQ K.tg r.tg).length k4) (zQ K.tg r.tg)):=az.o.keep g7;have aI:Y (Rd w7 (.slice a5 (xv (!decide (r.rep=[])) r.rep).length k5) (xv (!decide (r.rep=[])) r.rep)):=aB.o.keep g7;have aJ:Y (Rd w7 (.slice a6 (zQ K.st r.sets).length k6) (zQ K.st r.sets)):=aC.o.keep g7;have G7:Y (wa.grownBy w7 none):=G7;clear r7 g7 al aq aw az aB aC G6)
  | (go_at_call 70;refine(HJ.o _ a1 k1 a2 k2 a3 k3 a4 k4 a5 k5 a6 k6 a7 k7 G7.o aE.o aF.o aG.o aH.o aI.o aJ.o aK.o).mono ?_;rintro e wZ ⟨⟨aZ,kZ,rfl,hZ,gZ⟩,z0,z1,z2,z3,z4,z5,z6⟩;have HZ:Y (wZ.ownsRow w.heap.size 5 1 (.slice aZ (qL r).length kZ) (qL r).length (Lib.byteCells (qL r))):=hZ;have GZ:Y (w.grownBy wZ none):=gZ;clear hZ gZ))
 all_goals
  go_wp2
  go_ret
  exact⟨aZ,kZ,rfl,HZ.o,GZ.o⟩
theorem zm0 {r:P.Rl}(hv:VRl r):(qL r).length<=1200:=by
 have l1:=yR K.mt 60 r.ms (fun x hx=>zt1 (hv.ms x hx))
 have l2:=yR K.tg 60 r.tg (fun x hx=>zt0 (hv.tg x hx))
 have l3:=yR K.st 60 r.sets (fun x hx=>zsZ (hv.sets x hx))
 have l4:=yR zJ 60 r.drops (fun x hx=>by rw[qw];have:=(hv.drops x hx).nl;omega)
 have l5:r.rep.length<=24:=by rcases hv.rep with h | h;rw[h];simp;exact h.2
 have l6:=hv.pl
 have:=hv.ml;have:=hv.tl;have:=hv.sl;have:=hv.dl
 have l7:(wm r.rep).length<=26:=by
  unfold wm;split
  ·simp
  ·rw[zoF,qw];omega
 unfold qL
 simp only[zh,qw,kU];omega
theorem zoP {w:World}(l:List P.Rl)(v:Value)(ab:List (List Value))(ag:w.ownsRow 0 213 7 v l.length ab.flatten)(al:All2 (PRuleVal w) ab l)(hn:l.length<=255)(hv:∀x∈l,VRl x)(aq:(zQ qL l).length<=900000) :
  Calls Tryz.prog 109 #[.func (.func 110) #[] #[],v] w (Gives w (zQ qL l)):=by
 obtain⟨va,vc,rfl⟩:=zO ag
 have HR:Y (w.ownsRow 0 213 7 (.slice va l.length vc) l.length ab.flatten):=ag
 have HA:Y (All2 (PRuleVal w) ab l):=al
 have HV:Y (∀x∈l,VRl x):=hv
 have av:Y ((zQ qL l).length<=900000):=aq
 clear ag hv aq al
 go_enter Tryz.func109,Tryz.ntmps109
 go_wp2_with fail
 refine(vi l.length w).mono ?_
 rintro e w0 ⟨a0,k0,rfl,h0,g0⟩
 have aj:Y (w0.ownsRow w.heap.size 5 1 (.slice a0 (zP qL l 0).length k0) (zP qL l 0).length (Lib.byteCells (zP qL l 0))):=h0
 have ah:Y (w.grownBy w0 none):=g0
 clear h0 g0
 go_wp2_with fail
 go_loopw [5,13] (fun sv iv wr=>∃i:Nat,i<=l.length/\iv = .int .i64 i/\(∃a k,sv = .slice a (zP qL l i).length k/\Y (wr.ownsRow w.heap.size 5 1 (.slice a (zP qL l i).length k) (zP qL l i).length (Lib.byteCells (zP qL l i))))/\Y (w.grownBy wr none)) (fun _ iv _=>l.length - (intOf iv).toNat)
 case atStart=>exact⟨0,zo _,rfl,⟨a0,k0,rfl,aj⟩,ah⟩
 case round=>
  obtain⟨i,aG,rfl,⟨a,k,rfl,HO⟩,HG⟩:=hrel
  clear aj ah
  by_cases af:i<l.length
  ·have aF:(i:Int)<l.length:=by omega
   obtain⟨gt,aD,ap,_,aE⟩:=World.ownsRow.form HR.o (by omega)
   simp only[qQ] at ap
   obtain⟨rfl,_,rfl⟩:=ap
   have ar:=zV HR.o HG.o (fun k hk c=>by cases c)
   obtain⟨ce,am,ao⟩:=zgN HA.o i af
   have an:=am.keep HG.o (zi _ _)
   have aa:∀j,j<7->wr.cell? ⟨gt,i*7+j,none⟩=ce[j]?:=fun j hj=>by
    rw[qR ar (i*7+j) (by omega)];exact ao j hj
   have au:=HV.o l[i] (List.getElem_mem af)
   have ad:Y (xP [zP qL l i,qL l[i]]=zP qL l (i+1)):=jZ qL l i af
   have aH:(zP qL l (i+1)).length<=900000:=qf (vX qL l (i+1)) av.o
   generalize l[i]=x at*
   obtain⟨vM,vT,vS,vD,rfl,hM,ae,hS,hD⟩:=id an
   obtain⟨m1,m2,rfl⟩:=zO hM
   obtain⟨t1,t2,rfl⟩:=zO ae
   obtain⟨x1,x2,rfl⟩:=zO hS
   obtain⟨d1,d2,rfl⟩:=zO hD
   have aw:wr.cell? ⟨gt,i*7,none⟩=some (.int .i64 x.number):=aa 0 (by omega)
   have ax:wr.cell? ⟨gt,i*7+1,none⟩=some (.string (R.str x.path)):=aa 1 (by omega)
   have ay:wr.cell? ⟨gt,i*7+2,none⟩=some (.slice m1 x.ms.length m2):=aa 2 (by omega)
   have az:wr.cell? ⟨gt,i*7+3,none⟩=some (.slice t1 x.tg.length t2):=aa 3 (by omega)
   have aA:wr.cell? ⟨gt,i*7+4,none⟩=some (.string (R.str x.rep)):=aa 4 (by omega)
   have aB:wr.cell? ⟨gt,i*7+5,none⟩=some (.slice x1 x.sets.length x2):=aa 5 (by omega)
   have aC:wr.cell? ⟨gt,i*7+6,none⟩=some (.slice d1 x.drops.length d2):=aa 6 (by omega)
   have gB:wr.grownBy (wr.alloc (.cells #[.int .i64 x.number,.string (R.str x.path),.slice m1 x.ms.length m2,.slice t1 x.tg.length t2,.string (R.str x.rep),.slice x1 x.sets.length x2,.slice d1 x.drops.length d2] 213)) none:=zL _ _ none
   have HI:Y (Calls Tryz.prog 110 #[.agg #[.int .i64 x.number,.string (R.str x.path),.slice m1 x.ms.length m2,.slice t1 x.tg.length t2,.string (R.str x.rep),.slice x1 x.sets.length x2,.slice d1 x.drops.length d2]] (wr.alloc (.cells #[.int .i64 x.number,.string (R.str x.path),.slice m1 x.ms.length m2,.slice t1 x.tg.length t2,.string (R.str x.rep),.slice x1 x.sets.length x2,.slice d1 x.drops.length d2] 213)) (Gives (wr.alloc (.cells #[.int .i64 x.number,.string (R.str x.path),.slice m1 x.ms.length m2,.slice t1 x.tg.length t2,.string (R.str x.rep),.slice x1 x.sets.length x2,.slice d1 x.drops.length d2] 213)) (qL x))):=zoH x m1 t1 x1 d1 m2 t2 x2 d2 (wr.alloc (.cells #[.int .i64 x.number,.string (R.str x.path),.slice m1 x.ms.length m2,.slice t1 x.tg.length t2,.string (R.str x.rep),.slice x1 x.sets.length x2,.slice d1 x.drops.length d2] 213)) (zV hM gB (fun k hk c=>by cases c)) (zV ae gB (fun k hk c=>by cases c)) (zV hS gB (fun k hk c=>by cases c)) (zV hD gB (fun k hk c=>by cases c)) au
   have ai:=J (zD HG.o gB)
   have R0:Y (Rd (wr.alloc (.cells #[.int .i64 x.number,.string (R.str x.path),.slice m1 x.ms.length m2,.slice t1 x.tg.length t2,.string (R.str x.rep),.slice x1 x.sets.length x2,.slice d1 x.drops.length d2] 213)) (.slice a (zP qL l i).length k) (zP qL l i)):=(Rd.of_row HO.o).keep gB
   clear HV HR HO HG au HA ar am an ao aa gB hM ae hS hD
   go_wp2_with fail
   refine HI.o.mono ?_
   rintro e w1 ⟨a1,k1,rfl,h1,g1⟩
   have R1:Y (Rd w1 (.slice a1 (qL x).length k1) (qL x)):=Rd.of_row h1
   have ak:Y (Rd w1 (.slice a (zP qL l i).length k) (zP qL l i)):=R0.o.keep g1
   have G1:=J (zD ai.o g1)
   have HJ:Y (Calls Tryz.prog 70 #[.slice (some ⟨w1.heap.size,0,none⟩) 2 2] (w1.alloc (.cells #[.slice a (zP qL l i).length k,.slice a1 (qL x).length k1] 32)) (Gives w (zP qL l (i+1)))):=by
    have h:=ye G1.o [.slice a (zP qL l i).length k,.slice a1 (qL x).length k1] [zP qL l i,qL x] (.cons ak.o (.cons R1.o .nil)) (by rw[ad.o];omega) (by simp)
    rw[ad.o] at h
    exact h
   clear h1 g1 R0 ak R1 G1 ai HI ad
   go_wp2_with fail
   refine HJ.o.mono ?_
   rintro e w2 ⟨a2,k2,rfl,h2,g2⟩
   have H2:Y (w2.ownsRow w.heap.size 5 1 (.slice a2 (zP qL l (i+1)).length k2) (zP qL l (i+1)).length (Lib.byteCells (zP qL l (i+1)))):=h2
   have G2:Y (w.grownBy w2 none):=g2
   clear h2 g2 HJ
   go_wp2
   go_roundw
   case rel=>exact⟨i+1,by omega,by go_num,⟨a2,k2,rfl,H2⟩,G2⟩
   case measure=>simp[intOf];omega
  ·have hE:i=l.length:=by omega
   subst hE
   have HC:Y (zP qL l l.length=zQ qL l):=jy qL l
   rw[HC.o] at HO ⊢
   go_wp2
   go_ret
   exact⟨a,k,rfl,HO.o,HG.o⟩
theorem zo8 (x:P.Hst)(r1:Option Addr)(r2:Nat)(w:World)(hR:PRulesRow w 0 (.slice r1 x.rules.length r2) x.rules)(hn:x.name.length<=24)(al:x.rules.length<=6)(hv:∀r∈x.rules,VRl r):Calls Tryz.prog 72 #[.agg #[.string (R.str x.name),.slice r1 x.rules.length r2]] w (Gives w (qO x)):=by
 have aa:Y ((w.alloc (.cells #[.string (R.str x.name),.slice r1 x.rules.length r2] 146)).heap[w.heap.size]?=some (.cells #[.string (R.str x.name),.slice r1 x.rules.length r2] 146)):=heap_alloc_new _ _
 have c0:=zuH aa.o
 have c1:=zuB aa.o
 have ab:Y (w.grownBy (w.alloc (.cells #[.string (R.str x.name),.slice r1 x.rules.length r2] 146)) none):=zL _ _ _
 have am:=zI aa.o
 have ad:Y (PRulesRow (w.alloc (.cells #[.string (R.str x.name),.slice r1 x.rules.length r2] 146)) 0 (.slice r1 x.rules.length r2) x.rules):=hR.keep ab.o (zi _ _)
 have l1:=yR qL 1200 x.rules (fun r hr=>zm0 (hv r hr))
 have HV:Y (∀r∈x.rules,VRl r):=hv
 clear hR hv
 have C1:Y (∀W,(w.alloc (.cells #[.string (R.str x.name),.slice r1 x.rules.length r2] 146)).grownBy W none->Calls Tryz.prog 108 #[.string (R.str x.name)] W fun e w'=>∃a k,e = .returned (.slice a (zJ x.name).length k)/\Rd w' (.slice a (zJ x.name).length k) (zJ x.name)/\W.grownBy w' none/\(w.alloc (.cells #[.string (R.str x.name),.slice r1 x.rules.length r2] 146)).grownBy w' none/\w'.cell? ⟨w.heap.size,0,none⟩=some (.string (R.str x.name))/\w'.cell? ⟨w.heap.size,1,none⟩=some (.slice r1 x.rules.length r2)):=fun W hW=>(vZ x.name W (by omega)).mono fun e w' ⟨a,k,h1,h2,h3⟩=>⟨a,k,h1,Rd.of_row h2,h3,zD hW h3,zB (zF aa.o (zD hW h3) (by simp)),zB (zF aa.o (zD hW h3) (by simp))⟩
 have C2:Y (∀W,(w.alloc (.cells #[.string (R.str x.name),.slice r1 x.rules.length r2] 146)).grownBy W none->Calls Tryz.prog 109 #[.func (.func 110) #[] #[],.slice r1 x.rules.length r2] W fun e w'=>∃a k,e = .returned (.slice a (zQ qL x.rules).length k)/\Rd w' (.slice a (zQ qL x.rules).length k) (zQ qL x.rules)/\W.grownBy w' none/\(w.alloc (.cells #[.string (R.str x.name),.slice r1 x.rules.length r2] 146)).grownBy w' none/\w'.cell? ⟨w.heap.size,0,none⟩=some (.string (R.str x.name))/\w'.cell? ⟨w.heap.size,1,none⟩=some (.slice r1 x.rules.length r2)):=fun W hW=>((let ⟨css,q1,q2⟩:=ad.o.keep hW (zi _ _);zoP x.rules _ css q1 q2 (by omega) HV.o (by omega))).mono fun e w' ⟨a,k,h1,h2,h3⟩=>⟨a,k,h1,Rd.of_row h2,h3,zD hW h3,zB (zF aa.o (zD hW h3) (by simp)),zB (zF aa.o (zD hW h3) (by simp))⟩
 have HJ:Y (∀W a1 k1 a2 k2,(w.alloc (.cells #[.string (R.str x.name),.slice r1 x.rules.length r2] 146)).grownBy W none->Rd W (.slice a1 (zJ x.name).length k1) (zJ x.name)->Rd W (.slice a2 (zQ qL x.rules).length k2) (zQ qL x.rules)->Calls Tryz.prog 70 #[.slice (some ⟨W.heap.size,0,none⟩) 2 2] (W.alloc (.cells #[.slice a1 (zJ x.name).length k1,.slice a2 (zQ qL x.rules).length k2] 32)) fun e w'=>Gives w (qO x) e w'/\w'.cell? ⟨w.heap.size,0,none⟩=some (.string (R.str x.name))/\w'.cell? ⟨w.heap.size,1,none⟩=some (.slice r1 x.rules.length r2)):=fun W a1 k1 a2 k2 hW r1 r2=>by
  have h:=ye hW [.slice a1 (zJ x.name).length k1,.slice a2 (zQ qL x.rules).length k2] [zJ x.name,zQ qL x.rules] (.cons r1 (.cons r2 .nil)) (by rw[join2,zh,qw];omega) (by simp)
  rw[show xP [zJ x.name,zQ qL x.rules]=qO x from join2 _ _] at h
  refine Calls.mono h fun e w' ⟨a,k,h1,h2,h3⟩=>⟨⟨a,k,h1,kH h2 ab.o.size,zD ab.o h3⟩,zB (zF aa.o h3 (by simp)),zB (zF aa.o h3 (by simp))⟩
 clear aa ab ad HV l1
 go_enter Tryz.func72,Tryz.ntmps72
 go_wp2_with fail
 generalize(w.alloc (.cells #[.string (R.str x.name),.slice r1 x.rules.length r2] 146))=wa at*
 go_region_held3 (fun W=>W.cell? ⟨w.heap.size,0,none⟩=some (.string (R.str x.name))/\W.cell? ⟨w.heap.size,1,none⟩=some (.slice r1 x.rules.length r2)) (go_keep) (first
  | (go_at_call 108;show Calls _ _ _ (World.drew wa) _;refine(C1.o _ (zg wa)).mono ?_;rintro e w1 ⟨a1,k1,rfl,r1,g1,G1,ah,ai⟩;have ae:Y (Rd w1 (.slice a1 (zJ x.name).length k1) (zJ x.name)):=r1;have G1:Y (wa.grownBy w1 none):=G1;clear r1 g1)
  | (go_at_call 109;refine(C2.o _ G1.o).mono ?_;rintro e w2 ⟨a2,k2,rfl,r2,g2,G2,aj,ak⟩;have ag:Y (Rd w2 (.slice a2 (zQ qL x.rules).length k2) (zQ qL x.rules)):=r2;have af:Y (Rd w2 (.slice a1 (zJ x.name).length k1) (zJ x.name)):=ae.o.keep g2;have G2:Y (wa.grownBy w2 none):=G2;clear r2 g2 ae G1)
  | (go_at_call 70;refine(HJ.o _ a1 k1 a2 k2 G2.o af.o ag.o).mono ?_;rintro e wZ ⟨⟨aZ,kZ,rfl,hZ,gZ⟩,z0,z1⟩;have HZ:Y (wZ.ownsRow w.heap.size 5 1 (.slice aZ (qO x).length kZ) (qO x).length (Lib.byteCells (qO x))):=hZ;have GZ:Y (w.grownBy wZ none):=gZ;clear hZ gZ))
 all_goals
  go_wp2
  go_ret
  exact⟨aZ,kZ,rfl,HZ.o,GZ.o⟩
structure VPk (x:P.Hst):Prop where
 nl:x.name.length<=24
 rl:x.rules.length<=6
 rules:∀r∈x.rules,VRl r
theorem zgG {x:P.Hst}(h:VPk x):(qO x).length<=8000:=by
 have l1:=yR qL 1200 x.rules (fun r hr=>zm0 (h.rules r hr))
 have:=h.nl;have:=h.rl
 unfold qO
 rw[zh,qw];omega
theorem znP {w:World}(l:List P.Hst)(v:Value)(aa:List (List Value))(ag:w.ownsRow 0 146 2 v l.length aa.flatten)(al:All2 (PHostVal w) aa l)(hn:l.length<=255)(hv:∀x∈l,VPk x)(aq:(zQ qO l).length<=900000) :
  Calls Tryz.prog 71 #[.func (.func 72) #[] #[],v] w (Gives w (zQ qO l)):=by
 obtain⟨va,vc,rfl⟩:=zO ag
 have HR:Y (w.ownsRow 0 146 2 (.slice va l.length vc) l.length aa.flatten):=ag
 have HA:Y (All2 (PHostVal w) aa l):=al
 have HV:Y (∀x∈l,VPk x):=hv
 have au:Y ((zQ qO l).length<=900000):=aq
 clear ag hv aq al
 go_enter Tryz.func71,Tryz.ntmps71
 go_wp2_with fail
 refine(vi l.length w).mono ?_
 rintro e w0 ⟨a0,k0,rfl,h0,g0⟩
 have aj:Y (w0.ownsRow w.heap.size 5 1 (.slice a0 (zP qO l 0).length k0) (zP qO l 0).length (Lib.byteCells (zP qO l 0))):=h0
 have ah:Y (w.grownBy w0 none):=g0
 clear h0 g0
 go_wp2_with fail
 go_loopw [5,13] (fun sv iv wr=>∃i:Nat,i<=l.length/\iv = .int .i64 i/\(∃a k,sv = .slice a (zP qO l i).length k/\Y (wr.ownsRow w.heap.size 5 1 (.slice a (zP qO l i).length k) (zP qO l i).length (Lib.byteCells (zP qO l i))))/\Y (w.grownBy wr none)) (fun _ iv _=>l.length - (intOf iv).toNat)
 case atStart=>exact⟨0,zo _,rfl,⟨a0,k0,rfl,aj⟩,ah⟩
 case round=>
  obtain⟨i,aA,rfl,⟨a,k,rfl,HO⟩,HG⟩:=hrel
  clear aj ah
  by_cases af:i<l.length
  ·have az:(i:Int)<l.length:=by omega
   obtain⟨gt,ax,ap,_,ay⟩:=World.ownsRow.form HR.o (by omega)
   simp only[qQ] at ap
   obtain⟨rfl,_,rfl⟩:=ap
   have ar:=zV HR.o HG.o (fun k hk c=>by cases c)
   obtain⟨ce,am,ao⟩:=zdM HA.o i af
   have an:=am.keep HG.o (zi _ _)
   have ae:∀j,j<2->wr.cell? ⟨gt,i*2+j,none⟩=ce[j]?:=fun j hj=>by
    rw[qR ar (i*2+j) (by omega)];exact ao j hj
   have ab:=HV.o l[i] (List.getElem_mem af)
   have ad:Y (xP [zP qO l i,qO l[i]]=zP qO l (i+1)):=jZ qO l i af
   have aB:(zP qO l (i+1)).length<=900000:=qf (vX qO l (i+1)) au.o
   generalize l[i]=x at*
   obtain⟨vR,rfl,hR⟩:=id an
   obtain⟨r1,r2,rfl⟩:=wi hR
   have av:wr.cell? ⟨gt,i*2,none⟩=some (.string (R.str x.name)):=ae 0 (by omega)
   have aw:wr.cell? ⟨gt,i*2+1,none⟩=some (.slice r1 x.rules.length r2):=ae 1 (by omega)
   have gB:wr.grownBy (wr.alloc (.cells #[.string (R.str x.name),.slice r1 x.rules.length r2] 146)) none:=zL _ _ none
   have HI:Y (Calls Tryz.prog 72 #[.agg #[.string (R.str x.name),.slice r1 x.rules.length r2]] (wr.alloc (.cells #[.string (R.str x.name),.slice r1 x.rules.length r2] 146)) (Gives (wr.alloc (.cells #[.string (R.str x.name),.slice r1 x.rules.length r2] 146)) (qO x))):=zo8 x r1 r2 (wr.alloc (.cells #[.string (R.str x.name),.slice r1 x.rules.length r2] 146)) (hR.keep gB (zi _ _)) ab.nl ab.rl ab.rules
   have ai:=J (zD HG.o gB)
   have R0:Y (Rd (wr.alloc (.cells #[.string (R.str x.name),.slice r1 x.rules.length r2] 146)) (.slice a (zP qO l i).length k) (zP qO l i)):=(Rd.of_row HO.o).keep gB
   clear HV HR HO HG ab HA ar am an ao ae gB hR
   go_wp2_with fail
   refine HI.o.mono ?_
   rintro e w1 ⟨a1,k1,rfl,h1,g1⟩
   have R1:Y (Rd w1 (.slice a1 (qO x).length k1) (qO x)):=Rd.of_row h1
   have ak:Y (Rd w1 (.slice a (zP qO l i).length k) (zP qO l i)):=R0.o.keep g1
   have G1:=J (zD ai.o g1)
   have HJ:Y (Calls Tryz.prog 70 #[.slice (some ⟨w1.heap.size,0,none⟩) 2 2] (w1.alloc (.cells #[.slice a (zP qO l i).length k,.slice a1 (qO x).length k1] 32)) (Gives w (zP qO l (i+1)))):=by
    have h:=ye G1.o [.slice a (zP qO l i).length k,.slice a1 (qO x).length k1] [zP qO l i,qO x] (.cons ak.o (.cons R1.o .nil)) (by rw[ad.o];omega) (by simp)
    rw[ad.o] at h
    exact h
   clear h1 g1 R0 ak R1 G1 ai HI ad
   go_wp2_with fail
   refine HJ.o.mono ?_
   rintro e w2 ⟨a2,k2,rfl,h2,g2⟩
   have H2:Y (w2.ownsRow w.heap.size 5 1 (.slice a2 (zP qO l (i+1)).length k2) (zP qO l (i+1)).length (Lib.byteCells (zP qO l (i+1)))):=h2
   have G2:Y (w.grownBy w2 none):=g2
   clear h2 g2 HJ
   go_wp2
   go_roundw
   case rel=>exact⟨i+1,by omega,by go_num,⟨a2,k2,rfl,H2⟩,G2⟩
   case measure=>simp[intOf];omega
  ·have hE:i=l.length:=by omega
   subst hE
   have HC:Y (zP qO l l.length=zQ qO l):=jy qO l
   rw[HC.o] at HO ⊢
   go_wp2
   go_ret
   exact⟨a,k,rfl,HO.o,HG.o⟩
theorem ztJ {n:Nat}(h:n<4294967296):vp n<4294967296:=by
 unfold vp
 split
 ·exact Nat.xor_lt_two_pow (n:=32) (by omega) (by decide)
 ·omega
def jc:Nat->Nat->Nat
 | 0,s=>s
 | k+1,s=>vp (jc k s)
theorem zfV (k:Nat){n:Nat}(h:n<4294967296):jc k n<4294967296:=by
 induction k with
 | zero=>exact h
 | succ k ih=>exact ztJ ih
theorem zo3 (s:Nat)(c:UInt8):zcX s c=jc 8 (s ^^^ c.toNat):=rfl
theorem zd9 {s:Nat}(c:UInt8)(h:s<4294967296):s ^^^ c.toNat<4294967296:=Nat.xor_lt_two_pow (n:=32) h (by have:=c.toNat_lt;omega)
theorem zm4:∀(l:List UInt8) (s:Nat),s<4294967296->l.foldl zcX s<4294967296
 | [],_,h=>h
 | c :: l,s,h=>zm4 l (zcX s c) (by rw[zo3];exact zfV 8 (zd9 c h))
def yV (l:List UInt8)(i:Nat):Nat:=(l.take i).foldl zcX 4294967295
theorem fP (l:List UInt8)(i:Nat):yV l i<4294967296:=zm4 _ _ (by decide)
theorem zeP (l:List UInt8)(i:Nat)(h:i<l.length):yV l (i+1)=jc 8 (yV l i ^^^ l[i].toNat):=by
 unfold yV
 rw[uo h,List.foldl_append];rfl
theorem zp9 {q:Nat}(h:q<4294967296):4294967295 ^^^ q=4294967295 - q:=by
 apply Nat.eq_of_testBit_eq
 intro i
 have e1:(4294967295:Nat)=2 ^ 32 - 1:=by decide
 have e2:4294967295 - q=2 ^ 32 - (q+1):=by omega
 rw[Nat.testBit_xor,e2,Nat.testBit_two_pow_sub_succ (by simpa using h),e1,Nat.testBit_two_pow_sub_one]
 by_cases hi:i<32
 ·simp[hi]
 ·have:q.testBit i=false:=Nat.testBit_lt_two_pow (vQ h (by rw[show(4294967296:Nat)=2 ^ 32 by decide];exact Nat.pow_le_pow_right (by decide) (by omega)))
  simp[hi,this]
theorem zjH (n:Nat)(w:World)(hn:n<4294967296):Calls Tryz.prog 112 #[.int .u32 n] w fun e w'=>e = .returned (.int .u32 (vp n:Nat))/\w'=w:=by
 have HX:Y (bits .xor .u32 ((n:Int) / 2) 3988292384=((n / 2 ^^^ 3988292384:Nat):Int)):=u32_xor_nat (n / 2) 3988292384 (by omega) (by decide)
 have HA:Y (bits .and .u32 (n:Int) 1=((n % 2:Nat):Int)):=by
  have h:=u32_and_nat n 1 hn (by decide)
  rw[Nat.and_one_is_mod] at h
  exact h
 by_cases h:n % 2=1
 ·have HB:Y (vp n=n / 2 ^^^ 3988292384):=by show _=_;unfold vp;rw[if_pos h]
  have ht:(bits .and .u32 (n:Int) 1 == 1)=true:=by rw[HA.o,h];rfl
  clear h
  go_enter Tryz.func112,Tryz.ntmps112
  go_wp2
  go_ret
  exact⟨by rw[HB.o,<-HX.o];rfl,rfl⟩
 ·have HB:Y (vp n=n / 2):=by show _=_;unfold vp;rw[if_neg h]
  have ht:(bits .and .u32 (n:Int) 1 == 1)=false:=by
   rw[HA.o,beq_eq_false_iff_ne];omega
  clear h
  go_enter Tryz.func112,Tryz.ntmps112
  go_wp2
  go_ret
  exact⟨by rw[HB.o];rfl,rfl⟩
theorem zs9 {w:World}(a:Option Addr)(k:Nat)(l:List UInt8)(hr:Rd w (.slice a l.length k) l)(hl:l.length<=1000000) :
  Calls Tryz.prog 74 #[.slice a l.length k] w fun e w'=>e = .returned (.int .u32 (yS l:Nat))/\w'=w:=by
 have HR:Y (Rd w (.slice a l.length k) l):=hr
 clear hr
 go_enter Tryz.func74,Tryz.ntmps74
 go_wp2
 go_loopw [3,8] (fun sv iv wr=>∃i:Nat,i<=l.length/\iv = .int .i64 i/\sv = .int .u32 (yV l i:Nat)/\wr=w) (fun _ iv _=>l.length - (intOf iv).toNat)
 case atStart=>exact⟨0,zo _,rfl,rfl,rfl⟩
 case round=>
  obtain⟨i,ak,rfl,rfl,hw⟩:=hrel
  rw[hw]
  clear hw wr
  by_cases aa:i<l.length
  ·have aj:(i:Int)<l.length:=by omega
   obtain⟨g,c0,ae,ai,ad⟩:∃g c0,(.slice a l.length k:Value) = .slice (some ⟨g,0,none⟩) l.length c0/\g<w.heap.size/\∀j u,(Lib.byteCells l)[j]?=some u->w.cell? ((⟨g,0,none⟩:Addr).add j)=some u:=by
    rcases HR.o with ⟨_,h0⟩ | h
    ·rw[h0] at aa;cases aa
    ·exact h
   simp only[qQ,true_and] at ae
   obtain⟨rfl,rfl⟩:=ae
   have d0:w.cell? ⟨g,i,none⟩=some (.int .u8 l[i].toNat):=by
    have h:=ad i (.int .u8 l[i].toNat) (by unfold Lib.byteCells;rw[List.getElem?_map,xo aa];rfl)
    rw[kK,Nat.zero_add] at h;exact h
   have HN:Y (yV l (i+1)=jc 8 (yV l i ^^^ l[i].toNat)):=zeP l i aa
   have hc:=l[i].toNat_lt
   have hx:bits .xor .u32 (yV l i:Int) (l[i].toNat:Int)=((yV l i ^^^ l[i].toNat:Nat):Int):=u32_xor_nat _ _ (fP l i) (by omega)
   have ag:Y (yV l i ^^^ l[i].toNat<4294967296):=zd9 _ (fP l i)
   clear ad
   generalize l[i]=c at*
   generalize hs:yV l i ^^^ c.toNat=s0 at*
   have HS:Y (∀j,Calls Tryz.prog 112 #[.int .u32 (jc j s0:Nat)] w fun e w'=>e = .returned (.int .u32 (jc (j+1) s0:Nat))/\w'=w):=fun j=>zjH (jc j s0) w (zfV j ag.o)
   go_wp2_with fail
   go_loopw [3,16] (fun sv jv wq=>∃j:Nat,j<=8/\jv = .int .i64 j/\sv = .int .u32 (jc j s0:Nat)/\wq=w) (fun _ jv _=>8 - (intOf jv).toNat)
   case atStart=>exact⟨0,by omega,rfl,rfl,rfl⟩
   case round=>
    obtain⟨j,al,rfl,rfl,hw⟩:=hrel
    rw[hw]
    clear hw wr
    by_cases hj:j<8
    ·have am:(j:Int)<8:=by omega
     have ab:=HS.o j
     have ah:Y (Calls Tryz.prog 112 #[.int .u32 (jc j s0:Nat)] w fun e w'=>e = .returned (.int .u32 (jc (j+1) s0:Nat))/\w'=w):=ab
     clear ab HS HR
     go_wp2_with (go_at_call 112;refine ah.o.mono ?_;rintro e wX ⟨rfl,af⟩;rw[af];clear af wX)
     go_roundw
     case rel=>exact⟨j+1,by omega,by go_num,rfl,by first | trivial | rfl⟩
     case measure=>simp[intOf];omega
    ·have hE:j=8:=by omega
     subst hE
     clear HS HR
     go_wp2
     go_roundw
     case rel=>exact⟨i+1,by omega,by go_num,by rw[HN.o],by first | trivial | rfl⟩
     case measure=>simp[intOf];omega
  ·have hE:i=l.length:=by omega
   subst hE
   have HC:Y ((yS l:Nat)=4294967295 - yV l l.length):=by show _=_;unfold yS yV;rw[List.take_length]
   have hk:=fP l l.length
   have HX:Y (bits .xor .u32 IntKind.u32.max (yV l l.length:Int)=((4294967295 - yV l l.length:Nat):Int)):=by
    have h:=u32_xor_nat 4294967295 (yV l l.length) (by decide) hk
    rw[zp9 hk] at h
    exact h
   generalize yV l l.length=q at*
   go_wp2
   go_ret
   exact⟨by rw[HC.o,<-HX.o];rfl,rfl⟩
theorem znG (n:Nat)(h:n<4294967296):xP [qe ((n % 65536:Nat):Int),qe ((n / 65536:Nat):Int)]=xM n:=by
 rw[join2]
 unfold qe xM
 simp only[Int.toNat_natCast,List.cons_append,List.nil_append]
 rw[show n % 65536 % 256=n % 256 by omega,show n % 65536 / 256=n / 256 % 256 by omega,show n / 65536 / 256=n / 16777216 % 256 by omega]
theorem zqR (n:Nat)(w:World)(hn:n<4294967296):Calls Tryz.prog 73 #[.int .u32 n] w (Gives w (xM n)):=by
 have hA:wrap64 (bits .and .u32 (n:Int) 65535)=((n % 65536:Nat):Int):=by
  have h:=u32_and_nat n 65535 hn (by decide)
  rw[show(65535:Nat)=2 ^ 16 - 1 by decide,Nat.and_two_pow_sub_one_eq_mod] at h
  rw[show bits .and .u32 (n:Int) 65535=((n % 65536:Nat):Int) from h]
  simp only[wrap64];omega
 have hB:wrap64 ((n:Int) / 65536)=((n / 65536:Nat):Int):=by simp only[wrap64];omega
 have aa:Y (xP [qe ((n % 65536:Nat):Int),qe ((n / 65536:Nat):Int)]=xM n):=znG n hn
 go_enter Tryz.func73,Tryz.ntmps73
 go_wp2_with fail
 refine(zg9 (n % 65536) w).mono ?_
 rintro e w1 ⟨a1,k1,rfl,h1,g1⟩
 have ab:Y (Rd w1 (.slice a1 (qe ((n % 65536:Nat):Int)).length k1) (qe ((n % 65536:Nat):Int))):=Rd.of_row h1
 have G1:Y (w.grownBy w1 none):=g1
 clear h1 g1
 go_wp2_with fail
 refine(zg9 (n / 65536) w1).mono ?_
 rintro e w2 ⟨a2,k2,rfl,h2,g2⟩
 have ae:Y (Rd w2 (.slice a2 (qe ((n / 65536:Nat):Int)).length k2) (qe ((n / 65536:Nat):Int))):=Rd.of_row h2
 have ad:Y (Rd w2 (.slice a1 (qe ((n % 65536:Nat):Int)).length k1) (qe ((n % 65536:Nat):Int))):=ab.o.keep g2
 have G2:=J (zD G1.o g2)
 clear h2 g2 G1 ab
 go_wp2_with fail
 have HJ:Y (Calls Tryz.prog 70 #[.slice (some ⟨w2.heap.size,0,none⟩) 2 2] (w2.alloc (.cells #[.slice a1 (qe ((n % 65536:Nat):Int)).length k1,.slice a2 (qe ((n / 65536:Nat):Int)).length k2] 32)) (Gives w (xM n))):=by
  have h:=ye G2.o [.slice a1 (qe ((n % 65536:Nat):Int)).length k1,.slice a2 (qe ((n / 65536:Nat):Int)).length k2] [qe ((n % 65536:Nat):Int),qe ((n / 65536:Nat):Int)] (.cons ad.o (.cons ae.o .nil)) (by rw[aa.o];unfold xM;simp) (by simp)
  rw[aa.o] at h
  exact h
 refine HJ.o.mono ?_
 rintro e wZ ⟨aZ,kZ,rfl,hZ,gZ⟩
 clear HJ
 go_wp2
 go_ret
 exact⟨aZ,kZ,rfl,hZ,gZ⟩
theorem zeQ {w:World}(v:Value)(hs:List P.Hst)(hH:PHostsRow w 0 v hs)(hn:hs.length<=4)(hv:∀x∈hs,VPk x) :
  Calls Tryz.prog 43 #[.agg #[v]] w (Gives w (x9 hs)):=by
 obtain⟨b1,b2,rfl⟩:∃b1 b2,v = .slice b1 hs.length b2:=by obtain⟨af,h1,_⟩:=hH;exact zO h1
 have gB:w.grownBy ((w.alloc (.cells #[.slice b1 hs.length b2] 88)).alloc (.cells #[.int .u8 83,.int .u8 89,.int .u8 49] 5 (3,4))) none:=zD (zL _ _ none) (zL _ _ none)
 have ab:(w.alloc (.cells #[.slice b1 hs.length b2] 88)).heap.size=w.heap.size+1:=by simp
 have ai:=yR qO 8000 hs (fun x hx=>zgG (hv x hx))
 have HC:Y (Calls Tryz.prog 71 #[.func (.func 72) #[] #[],.slice b1 hs.length b2] ((w.alloc (.cells #[.slice b1 hs.length b2] 88)).alloc (.cells #[.int .u8 83,.int .u8 89,.int .u8 49] 5 (3,4))) (Gives ((w.alloc (.cells #[.slice b1 hs.length b2] 88)).alloc (.cells #[.int .u8 83,.int .u8 89,.int .u8 49] 5 (3,4))) (zQ qO hs))):=by
  obtain⟨af,q1,q2⟩:=hH.keep gB (zi _ _)
  exact znP hs _ af q1 q2 (by omega) hv (by omega)
 have R0:Y (Rd ((w.alloc (.cells #[.slice b1 hs.length b2] 88)).alloc (.cells #[.int .u8 83,.int .u8 89,.int .u8 49] 5 (3,4))) (.slice (some ⟨w.heap.size+1,0,none⟩) 3 3) [83,89,49]):=by
  refine Or.inr ⟨w.heap.size+1,3,rfl,by rw[show((w.alloc (.cells #[.slice b1 hs.length b2] 88)).alloc (.cells #[.int .u8 83,.int .u8 89,.int .u8 49] 5 (3,4))).heap.size=w.heap.size+2 by simp];omega,fun j u hu=>?_⟩
  rw[kK,Nat.zero_add,<-ab,World.cell?_alloc_mark]
  rw[<-hu,<-List.getElem?_toArray];rfl
 have aj:(convert 32 32 (.slice (some ⟨w.heap.size+1,0,none⟩) 3 3)).run Tryz.prog ((w.alloc (.cells #[.slice b1 hs.length b2] 88)).alloc (.cells #[.int .u8 83,.int .u8 89,.int .u8 49] 5)) = .ok (.slice (some ⟨w.heap.size+1,0,none⟩) 3 3) ((w.alloc (.cells #[.slice b1 hs.length b2] 88)).alloc (.cells #[.int .u8 83,.int .u8 89,.int .u8 49] 5 (3,4))):=by
  have h:=Lib.run_convert_bytes_const (P:=Tryz.prog) (w.alloc (.cells #[.slice b1 hs.length b2] 88)) 32 5 #[.int .u8 83,.int .u8 89,.int .u8 49] 3 3 Tryz.underlying32 Tryz.underlying5
  rw[ab] at h
  exact h
 have u0:((w.alloc (.cells #[.slice b1 hs.length b2] 88)).alloc (.cells #[.int .u8 83,.int .u8 89,.int .u8 49] 5 (3,4))).cell? ⟨w.heap.size,0,none⟩=some (.slice b1 hs.length b2):=zB (zF (heap_alloc_new w (.cells #[.slice b1 hs.length b2] 88)) (zL _ _ none) (by simp))
 have ad:Y (w.grownBy ((w.alloc (.cells #[.slice b1 hs.length b2] 88)).alloc (.cells #[.int .u8 83,.int .u8 89,.int .u8 49] 5 (3,4))) none):=gB
 have aa:Y ((xE hs).length<=100000):=by
  show _<=_
  unfold xE;rw[zh];simp only[zoF,zmU];omega
 clear hH hv gB ab ai
 go_enter Tryz.func43,Tryz.ntmps43
 go_wp2_with fail
 refine HC.o.mono ?_
 rintro e w1 ⟨a1,k1,rfl,h1,g1⟩
 have R1:Y (Rd w1 (.slice a1 (zQ qO hs).length k1) (zQ qO hs)):=Rd.of_row h1
 have ae:Y (Rd w1 (.slice (some ⟨w.heap.size+1,0,none⟩) 3 3) [83,89,49]):=R0.o.keep g1
 have G1:=J (zD ad.o g1)
 clear h1 g1 R0 ad HC u0 aj
 have HJ:Y (Calls Tryz.prog 70 #[.slice (some ⟨w1.heap.size,0,none⟩) 2 2] (w1.alloc (.cells #[.slice (some ⟨w.heap.size+1,0,none⟩) 3 3,.slice a1 (zQ qO hs).length k1] 32)) (Gives w (xE hs))):=by
  have h:=ye G1.o [.slice (some ⟨w.heap.size+1,0,none⟩) 3 3,.slice a1 (zQ qO hs).length k1] [[83,89,49],zQ qO hs] (.cons ae.o (.cons R1.o .nil)) (by rw[join2];have:=aa.o;unfold xE at this;omega) (by simp)
  rw[show xP [[83,89,49],zQ qO hs]=xE hs from join2 _ _] at h
  exact h
 go_wp2_with fail
 refine HJ.o.mono ?_
 rintro e w2 ⟨a2,k2,rfl,h2,g2⟩
 have R2:Y (Rd w2 (.slice a2 (xE hs).length k2) (xE hs)):=Rd.of_row h2
 have G2:Y (w.grownBy w2 none):=g2
 clear h2 g2 HJ ae R1 G1
 have HS:Y (Calls Tryz.prog 74 #[.slice a2 (xE hs).length k2] w2 fun e w'=>e = .returned (.int .u32 (yS (xE hs):Nat))/\w'=w2):=zs9 a2 k2 _ R2.o (by have:=aa.o;omega)
 go_wp2_with fail
 refine HS.o.mono ?_
 rintro e wX ⟨rfl,ag⟩
 rw[ag]
 clear ag wX HS
 go_wp2_with fail
 refine(zqR (yS (xE hs)) w2 (by unfold yS;omega)).mono ?_
 rintro e w3 ⟨a3,k3,rfl,h3,g3⟩
 have R3:Y (Rd w3 (.slice a3 (xM (yS (xE hs))).length k3) (xM (yS (xE hs)))):=Rd.of_row h3
 have ah:Y (Rd w3 (.slice a2 (xE hs).length k2) (xE hs)):=R2.o.keep g3
 have G3:=J (zD G2.o g3)
 clear h3 g3 R2 G2
 have HJ:Y (Calls Tryz.prog 70 #[.slice (some ⟨w3.heap.size,0,none⟩) 2 2] (w3.alloc (.cells #[.slice a2 (xE hs).length k2,.slice a3 (xM (yS (xE hs))).length k3] 32)) (Gives w (x9 hs))):=by
  have h:=ye G3.o [.slice a2 (xE hs).length k2,.slice a3 (xM (yS (xE hs))).length k3] [xE hs,xM (yS (xE hs))] (.cons ah.o (.cons R3.o .nil)) (by rw[join2,zh];have:=aa.o;unfold xM;simp;omega) (by simp)
  rw[show xP [xE hs,xM (yS (xE hs))]=x9 hs from join2 _ _] at h
  exact h
 go_wp2_with fail
 refine HJ.o.mono ?_
 rintro e w4 ⟨a4,k4,rfl,h4,g4⟩
 clear HJ
 go_wp2
 go_ret
 exact⟨a4,k4,rfl,h4,g4⟩
def wn (m:R.Mt):List UInt8:=zJ m.name++(if m.ask then 1 :: zJ m.val else [0])
def tF (r:R.Rl):List UInt8:=if r.change then 1 :: zJ r.to else [0]
def qt (r:R.Rl):List UInt8:=qe r.number++(zJ r.path++(zQ wn r.ms++(zQ K.tg r.tg++(tF r++(zQ K.st r.sets++zQ zJ r.drops)))))
def yr (h:R.Hst):List UInt8:=zJ h.name++zQ qt h.rules
def vF (hs:List R.Hst):List UInt8:=[83,89,49]++zQ yr hs
def fK (hs:List R.Hst):List UInt8:=vF hs++xM (yS (vF hs))
theorem zaX {α β:Type}(g:α->β)(f:β->List UInt8)(h:α->List UInt8)(e:∀x,f (g x)=h x)(l:List α):zQ f (l.map g)=zQ h l:=by
 unfold zQ
 rw[xW,List.map_map]
 congr 3
 funext x;exact e x
theorem zqF (x:P.Rl):qt (toRl x)=qL x:=by
 unfold qt qL tF wm toRl rlOf
 simp only
 rw[zaX mtOf wn K.mt (fun m=>rfl)]
 by_cases h:x.rep=[] <;> simp[h]
theorem zqO (x:P.Hst):yr (toR x)=qO x:=by
 unfold yr qO toR
 simp only
 rw[zaX toRl qt qL zqF]
theorem tE (hs:List P.Hst):fK (hs.map toR)=x9 hs:=by
 have e:vF (hs.map toR)=xE hs:=by
  unfold vF xE
  rw[zaX toR yr qO zqO]
 unfold fK x9
 rw[e]
def yc (l:List UInt8):List UInt8:=if (xU l).1=0 then fK (xI (R.readS l).1) else []
theorem zmE {l:List UInt8}{aa:List P.Hst}(h:(xV l).1=0)(hs:SrtH (qD l).1 aa) :
  yc l=x9 aa/\aa.length<=4/\(∀x∈aa,VPk x):=by
 obtain⟨h1,h2,h3⟩:=tM h
 obtain⟨hg,e⟩:=tK l h1 h2 h3
 rw[e] at hg
 have e2:=zjV hs hg
 obtain⟨a1,a2,a3⟩:=zbZ l h2 h3
 have hv:=zaO hs a1 a2 a3
 refine⟨?_,hv.hl,fun x hx=>⟨(hv.hosts x hx).nl,(hv.hosts x hx).rl,(hv.hosts x hx).rules⟩⟩
 unfold yc
 rw[if_pos (by rw[<-vU];exact h),e,<-e2,tE]
theorem zpQ (s:ByteArray)(w:World)(aw:s.size<=maxLen)(hG:Glob w) :
  Calls Tryz.prog 18 #[.string s] w fun e w'=>∃a k,e = .returned (.tuple #[.slice a (yc s.data.toList).length k,.int .i64 (xU s.data.toList).1,.int .i64 (xU s.data.toList).2])/\w'.ownsRow w.heap.size 5 1 (.slice a (yc s.data.toList).length k) (yc s.data.toList).length (Lib.byteCells (yc s.data.toList))/\w.grownBy w' none:=by
 have ah:Y (Calls Tryz.prog 41 #[.string s] w fun e w'=>∃va vn vc,e = .returned (.tuple #[.agg #[.slice va vn vc],.int .i64 (xV s.data.toList).1,.int .i64 (xV s.data.toList).2])/\w.grownBy w' none/\((xV s.data.toList).1=0->∃aa,PHostsRow w' 0 (.slice va vn vc) aa/\SrtH (qD s.data.toList).1 aa)):=by
  refine(ziZ s w aw hG (fun h1 h2 h3=>zhH _ (by rw[R.size_eq];exact h1) h2 h3)).mono ?_
  rintro e w' ⟨v,rfl,h1,h2,va,vn,vc,rfl⟩
  exact⟨va,vn,vc,rfl,h1,h2⟩
 have ae:Y (∀aa,(xV s.data.toList).1=0->SrtH (qD s.data.toList).1 aa->yc s.data.toList=x9 aa/\aa.length<=4/\(∀h∈aa,VPk h)):=fun aa h1 h2=>zmE h1 h2
 have ad:Y ((xV s.data.toList).1≠0->yc s.data.toList=[]):=fun h=>by
  unfold yc;rw[if_neg (by rw[<-vU];exact h)]
 have ak:Y ((xV s.data.toList).1=0->(xV s.data.toList).2=0):=zcN
 rw[<-vU]
 clear hG
 generalize yc s.data.toList=pt at*
 generalize xV s.data.toList=er at*
 generalize qD s.data.toList=rd at*
 obtain⟨ai,al⟩:=er
 simp only at ah ae ad ak ⊢
 go_enter Tryz.func18,Tryz.ntmps18
 go_wp2_with fail
 refine ah.o.mono ?_
 rintro e w1 ⟨va,vn,vc,rfl,am,an⟩
 have af:Y (w.grownBy w1 none):=am
 have ag:Y (((ai,al):Int×Int).1=0->∃aa,PHostsRow w1 0 (.slice va vn vc) aa/\SrtH rd.1 aa):=an
 have ab:Y (w1.grownBy (w1.alloc (.cells #[.slice va vn vc] 88)) none):=zL _ _ none
 clear am an ah
 by_cases aj:ai=0
 ·subst aj
  have av:al=0:=ak.o rfl
  subst av
  obtain⟨aa,ao,ap⟩:=ag.o rfl
  obtain⟨q1,q2,q3⟩:=ae.o aa rfl ap
  have au:Y (Calls Tryz.prog 43 #[.agg #[.slice va vn vc]] (w1.alloc (.cells #[.slice va vn vc] 88)) (Gives w pt)):=by
   rw[q1]
   exact(zeQ _ aa (PHostsRow.keep ao ab.o (zi _ _)) q2 q3).mono fun e w' ⟨a,k,k1,k2,k3⟩=>⟨a,k,k1,kH k2 (zD af.o ab.o).size,zD (zD af.o ab.o) k3⟩
  clear q1 q2 q3 ao ap ae ad ag
  go_wp2_with (go_at_call 43;refine au.o.mono ?_;rintro e w2 ⟨a2,k2,rfl,h2,g2⟩)
  go_ret3
  exact⟨a2,k2,rfl,h2,g2⟩
 ·have ar:Y (pt=[]):=ad.o aj
  have ax:(ai != 0)=true:=by rw[bne_iff_ne];exact aj
  have aq:=J (zD af.o ab.o)
  clear ae ad ag
  go_wp2
  go_ret3
  rw[ar.o]
  exact⟨none,0,rfl,xd _ _ _ _,aq.o⟩
end Go.Proofs.YtfocdefchbnkpaaGreatDoor
