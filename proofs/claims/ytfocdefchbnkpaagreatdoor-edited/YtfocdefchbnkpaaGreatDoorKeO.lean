/- Headers are set and dropped, paths replaced, as the rule says. -/
import Derived.Test.YtfocdefchbnkpaaGreatDoorAli
import Derived.Test.YtfocdefchbnkpaaGreatDoorKeG
set_option maxRecDepth 100000
set_option maxHeartbeats 20000000
namespace Go.Proofs.YtfocdefchbnkpaaGreatDoor
open Go.RowKit
def Zs (w:World)(ao:Option Addr)(zs:List Int):Prop:=∀i (h:i<zs.length),∃b o,ao=some ⟨b,o,none⟩/\w.cell? ⟨b,o+i,none⟩=some (.int .i64 zs[i])/\-9223372036854775808<=zs[i]/\zs[i]<=9223372036854775807
def Ed.ns (zs:List Int):List Nat:=(zs.take 11).map fun z=>Kp.pick z 3
theorem zu6 (zs:List Int):∀n∈Ed.ns zs,n<3:=fun n hn=>by
 unfold Ed.ns at hn
 obtain⟨z,_,rfl⟩:=List.mem_map.1 hn
 exact Kp.pick_lt z (by decide)
theorem ztR (zs:List Int):(Ed.ns zs).length=min zs.length 11:=by unfold Ed.ns;rw[qw,List.length_take];omega
theorem zu5 (zs:List Int)(j:Nat)(h:j<zs.length)(_:j<11)(h3:j<(Ed.ns zs).length):(Ed.ns zs)[j]=Kp.pick zs[j] 3:=by
 unfold Ed.ns
 simp
theorem q75q (n:Nat):∀(ns:List Nat) (j:Nat),Ed.txt j (ns++[n])=Ed.txt j ns++(Ed.ln n (j+ns.length)++[13,10])
 | [],j=>by
  show Ed.ln n j++[13,10]++[]=[]++(Ed.ln n (j+0)++[13,10])
  rw[xn,List.nil_append,Nat.add_zero]
 | a :: ns,j=>by
  rw[List.cons_append,Ed.txt,Ed.txt,q75q n ns (j+1),zm]
  have e:j+1+ns.length=j+(ns.length+1):=by omega
  rw[e];simp only[xY]
theorem q129q (dr:Nat->Bool)(se:Nat->List UInt8)(aa:∀n,n<3->(se n).length<=3):∀(ns:List Nat) (s:List UInt8×(Nat->Bool)×Nat),(∀n∈ns,n<3)->s.1.length<=10*s.2.2->s.2.2+ns.length<=11->(ns.foldl (Ed.step dr se) s).1.length<=10*(s.2.2+ns.length)/\(ns.foldl (Ed.step dr se) s).2.2=s.2.2+ns.length
 | [],s,_,h,_=>⟨h,rfl⟩
 | n :: ns,s,hn,h,hl=>by
  have ab:s.2.2+(ns.length+1)<=11:=hl
  have h3:=aa n (hn n List.mem_cons_self)
  have h4:(R.dec s.2.2).length<=2:=R.dec_len s.2.2 1 (by omega)
  have hp:∀v:List UInt8,v.length<=3->(Ed.piece n v).length<=8:=fun v hv=>by
   unfold Ed.piece Ed.nm
   simp only[zW,zm,qi];omega
  have h5:(Ed.step dr se s n).1.length<=10*(Ed.step dr se s n).2.2/\(Ed.step dr se s n).2.2=s.2.2+1:=by
   unfold Ed.step
   split
   ·exact⟨by show s.1.length<=10*(s.2.2+1);omega,rfl⟩
   ·split
    ·have:=hp (R.dec s.2.2) (by omega)
     exact⟨by show(s.1++_).length<=10*(s.2.2+1);rw[zW];omega,rfl⟩
    ·split
     ·exact⟨by show s.1.length<=10*(s.2.2+1);omega,rfl⟩
     ·have:=hp (se n) h3
      exact⟨by show(s.1++_).length<=10*(s.2.2+1);rw[zW];omega,rfl⟩
  have h6:=q129q dr se aa ns (Ed.step dr se s n) (fun x hx=>hn x (List.mem_cons_of_mem _ hx)) h5.1 (by omega)
  rw[List.foldl_cons,zm]
  rw[h5.2] at h6
  exact⟨by have:=h6.1;omega,by rw[h6.2];omega⟩
theorem q135q:∀(ns:List Nat) (j:Nat),(∀n∈ns,n<3)->j+ns.length<=11->(Ed.txt j ns).length<=6*ns.length
 | [],_,_,_=>zl _
 | n :: ns,j,hn,hl=>by
  have aa:j+(ns.length+1)<=11:=hl
  have h1:=(q51q n (hn n List.mem_cons_self) j (by omega)).2.2.2.1
  have h2:=q135q ns (j+1) (fun x hx=>hn x (List.mem_cons_of_mem _ hx)) (by omega)
  rw[Ed.txt]
  simp only[zW,zm,qi]
  omega
theorem q126q (se:Nat->List UInt8)(dn:Nat->Bool)(aa:∀n,n<3->(se n).length<=3):∀q,q<=3->(Ed.end se dn q).length<=8*q
 | 0,_=>zl _
 | q+1,h=>by
  have h1:=q126q se dn aa q (by omega)
  have h2:=aa q (by omega)
  rw[Ed.end,zW]
  split
  ·unfold Ed.piece Ed.nm
   simp only[zW,zm,qi];omega
  ·simp only[qi];omega
theorem q76q {a v:List UInt8}{n:Nat}:R.str a++R.str (Ed.nm n)++⟨#[58,32]⟩++R.str v++⟨#[13,10]⟩=R.str (a++Ed.piece n v):=by
 have e2:(⟨#[58,32]⟩:ByteArray)=R.str [58,32]:=rfl
 have e3:(⟨#[13,10]⟩:ByteArray)=R.str [13,10]:=rfl
 rw[e2,e3,q2q,q2q,q2q,q2q]
 unfold Ed.piece
 simp only[xY]
theorem zu4 {a:List UInt8}{n j:Nat}:R.str a++R.str (Ed.nm n)++⟨#[58]⟩++R.str (R.dec j)++⟨#[13,10]⟩=R.str (a++(Ed.ln n j++[13,10])):=by
 have e2:(⟨#[58]⟩:ByteArray)=R.str [58]:=rfl
 have e3:(⟨#[13,10]⟩:ByteArray)=R.str [13,10]:=rfl
 rw[e2,e3,q2q,q2q,q2q,q2q]
 unfold Ed.ln
 simp only[xY]
theorem q88q {a:List UInt8}{n:Nat}{cb vb:ByteArray}(h:a.length<=200)(h3:cb.size<=2)(h2:vb.size<=3):(R.str a).size<=200/\(R.str a++R.str (Ed.nm n)).size<=201/\(R.str a++R.str (Ed.nm n)++cb).size<=203/\(R.str a++R.str (Ed.nm n)++cb++vb).size<=206:=by
 have e:(R.str a).size<=200:=by rw[R.str_size];exact h
 have e1:(R.str (Ed.nm n)).size=1:=by rw[R.str_size];rfl
 simp only[ByteArray.size_append]
 omega
theorem zt9 (n:Nat):(R.str (Ed.nm n)).size<=1:=by rw[R.str_size];exact zZ 1
def Ed.A3 (f:Nat->Value):Array Value:=#[f 0,f 1,f 2]
theorem at3 (f:Nat->Value):∀n,n<3->(Ed.A3 f)[n]?=some (f n)
 | 0,_=>rfl
 | 1,_=>rfl
 | 2,_=>rfl
 | n+3,h=>by omega
theorem ztF (dn:Nat->Bool):∀n,n<3->(Ed.A3 fun n=>.bool (dn n)).setIfInBounds n (.bool true)=Ed.A3 fun x=>.bool (if x=n then true else dn x)
 | 0,_=>rfl
 | 1,_=>rfl
 | 2,_=>rfl
 | n+3,h=>by omega
structure Ed.Blk (w2 wr:World) (gn gs gd gz:Nat) (se:Nat->List UInt8) (dr dn:Nat->Bool):Prop where
 gr:w2.grownBy wr none
 nm:wr.heap[gn]?=some (.cells (Ed.A3 fun n=>.string (R.str (Ed.nm n))) 9)
 st:wr.heap[gs]?=some (.cells (Ed.A3 fun n=>.string (R.str (se n))) 9)
 dr:wr.heap[gd]?=some (.cells (Ed.A3 fun n=>.bool (dr n)) 4)
 dn:wr.heap[gz]?=some (.cells (Ed.A3 fun n=>.bool (dn n)) 4)
theorem Ed.Blk.keep {w2 wr wq:World}{gn gs gd gz:Nat}{se:Nat->List UInt8}{dr dn:Nat->Bool}(h:Ed.Blk w2 wr gn gs gd gz se dr dn)(g:wr.grownBy wq none):Ed.Blk w2 wq gn gs gd gz se dr dn:=
 ⟨zA h.gr g,zB h.nm g (by simp),zB h.st g (by simp),zB h.dr g (by simp),zB h.dn g (by simp)⟩
theorem Ed.Blk.set {w2 wr:World}{gn gs gd gz:Nat}{se:Nat->List UInt8}{dr dn:Nat->Bool}(h:Ed.Blk w2 wr gn gs gd gz se dr dn)(ab:w2.heap.size<=gz)(ad:gd≠gz)(n:Nat)(hn:n<3):Ed.Blk w2 (wr.setCell ⟨gz,n,none⟩ (.bool true)) gn gs gd gz se dr (fun x=>if x=n then true else dn x):=by
 have aa:=zD wr gz n (.bool true)
 have n1:gn≠gz:=fun e=>by have:=h.nm;rw[e,h.dn] at this;simp at this
 have n2:gs≠gz:=fun e=>by have:=h.st;rw[e,h.dn] at this;simp at this
 have h9:=zF (i:=n) h.dn (.bool true)
 rw[ztF dn n hn] at h9
 exact⟨zY h.gr aa ab,zB h.nm aa (by simpa using n1),zB h.st aa (by simpa using n2),zB h.dr aa (by simpa using ad),h9⟩
def Ed.objs (s:Nat):List Obj:=[.cells #[.string ⟨#[47,111,108,100,47,49,63,47,111,108,100]⟩,.string ⟨#[47,110,101,119,47,49,63,47,111,108,100]⟩,.string ⟨#[47,111,108,100,47,49,63,47,111,108,100]⟩,.string ⟨#[47,47,49,63,47,111,108,100]⟩] 9,.cells #[.string ⟨#[97]⟩,.string ⟨#[98]⟩,.string ⟨#[99]⟩] 9,.cells #[.string ⟨#[]⟩,.string ⟨#[57]⟩,.string ⟨#[]⟩] 9,.cells #[.string ⟨#[]⟩,.string ⟨#[]⟩,.string ⟨#[]⟩] 9,.cells #[.string ⟨#[]⟩,.string ⟨#[]⟩,.string ⟨#[]⟩] 9,.cells #[.string ⟨#[120,32,121]⟩,.string ⟨#[]⟩,.string ⟨#[55]⟩] 9,.cells #[.slice (some ⟨s+1+1,0,none⟩) 3 3,.slice (some ⟨s+1+1+1,0,none⟩) 3 3,.slice (some ⟨s+1+1+1+1,0,none⟩) 3 3,.slice (some ⟨s+1+1+1+1+1,0,none⟩) 3 3] 22,.cells #[.bool false,.bool false,.bool true] 4,.cells #[.bool false,.bool false,.bool false] 4,.cells #[.bool true,.bool true,.bool false] 4,.cells #[.bool false,.bool false,.bool false] 4,.cells #[.slice (some ⟨s+1+1+1+1+1+1+1,0,none⟩) 3 3,.slice (some ⟨s+1+1+1+1+1+1+1+1,0,none⟩) 3 3,.slice (some ⟨s+1+1+1+1+1+1+1+1+1,0,none⟩) 3 3,.slice (some ⟨s+1+1+1+1+1+1+1+1+1+1,0,none⟩) 3 3] 63,.cells #[.bool false,.bool false,.bool false] 4]
structure Ed.Pol (k:Nat) (t:List UInt8) (h:List P.Hst) (dr:Nat->Bool) (se:Nat->List UInt8) (ob x:List UInt8) (rep ed pa:ByteArray):Prop where
 err:xm t=(0,0)
 pack:xG t=qE h
 valid:VHs h
 fits:Fits h
 sent:∀ns:List Nat,(∀n∈ns,n<3)->ns.length<=11->(Ed.y0.fedP h 0 (Ed.inb++Ed.txt 0 ns++[13,10])).sent=[⟨1,[117],ob++(Ed.run dr se ns).1++Ed.end se (Ed.run dr se ns).2.1 3++x++[13,10]⟩]
 tl:t.length<=1000000
 obl:ob.length<=40
 sel:∀n,n<3->(se n).length<=3
 zr:rep.size<=20
 ze:ed.size<=40
 zp:pa.size<=20
 tx:(⟨#[104,111,115,116,34,42,34,123,114,117,108,101,32,49,123,112,97,116,104,34,47,111,108,100,34,59,116,111,34,117,34,49,59]⟩:ByteArray)++rep++ed++⟨#[125,125]⟩=R.str t
 op:(⟨#[71,69,84,32]⟩:ByteArray)++pa++⟨#[32,72,84,84,80,47,49,46,49,13,10,104,111,115,116,58,32,104,13,10]⟩=R.str ob
 xe:x=if k=1 then [110,58,32,13,10] else []
 cr:(#[.string ⟨#[]⟩,.string ⟨#[114,101,112,108,97,99,101,34,47,110,101,119,34,59]⟩,.string ⟨#[]⟩,.string ⟨#[114,101,112,108,97,99,101,34,47,34,59]⟩]:Array Value)[k]?=some (.string rep)
 ce:(#[.string ⟨#[115,101,116,34,66,34,61,34,57,34,59,100,114,111,112,34,99,34,59]⟩,.string ⟨#[115,101,116,34,110,34,61,34,34,59]⟩,.string ⟨#[100,114,111,112,34,65,34,59,100,114,111,112,34,98,34,59]⟩,.string ⟨#[115,101,116,34,97,34,61,34,120,32,121,34,59,115,101,116,34,99,34,61,34,55,34,59]⟩]:Array Value)[k]?=some (.string ed)
 cp:(#[.string ⟨#[47,111,108,100,47,49,63,47,111,108,100]⟩,.string ⟨#[47,110,101,119,47,49,63,47,111,108,100]⟩,.string ⟨#[47,111,108,100,47,49,63,47,111,108,100]⟩,.string ⟨#[47,47,49,63,47,111,108,100]⟩]:Array Value)[k]?=some (.string pa)
 cs:∀s:Nat,(#[.slice (some ⟨s+1+1,0,none⟩) 3 3,.slice (some ⟨s+1+1+1,0,none⟩) 3 3,.slice (some ⟨s+1+1+1+1,0,none⟩) 3 3,.slice (some ⟨s+1+1+1+1+1,0,none⟩) 3 3]:Array Value)[k]?=some (.slice (some ⟨s+(2+k),0,none⟩) 3 3)
 cd:∀s:Nat,(#[.slice (some ⟨s+1+1+1+1+1+1+1,0,none⟩) 3 3,.slice (some ⟨s+1+1+1+1+1+1+1+1,0,none⟩) 3 3,.slice (some ⟨s+1+1+1+1+1+1+1+1+1,0,none⟩) 3 3,.slice (some ⟨s+1+1+1+1+1+1+1+1+1+1,0,none⟩) 3 3]:Array Value)[k]?=some (.slice (some ⟨s+(7+k),0,none⟩) 3 3)
 os:∀s:Nat,(Ed.objs s)[2+k]?=some (.cells (Ed.A3 fun n=>.string (R.str (se n))) 9)
 od:∀s:Nat,(Ed.objs s)[7+k]?=some (.cells (Ed.A3 fun n=>.bool (dr n)) 4)
theorem app3 {a b c d:ByteArray}{x y z u:List UInt8}(h1:a=R.str x)(h2:b=R.str y)(h3:c=R.str z)(h4:d=R.str u):a++b++c++d=R.str (x++y++z++u):=by
 rw[h1,h2,h3,h4,q2q,q2q,q2q]
theorem app2 {a b c:ByteArray}{x y z:List UInt8}(h1:a=R.str x)(h2:b=R.str y)(h3:c=R.str z):a++b++c=R.str (x++y++z):=by
 rw[h1,h2,h3,q2q,q2q]
theorem ztJ:∀k,k<4->∃t h dr se ob x rep ed pa,Ed.Pol k t h dr se ob x rep ed pa
 | 0,_=>⟨Ed.t0,Ed.h0,Ed.dr0,Ed.se0,Ed.ob0,Ed.x0,⟨#[]⟩,⟨#[115,101,116,34,66,34,61,34,57,34,59,100,114,111,112,34,99,34,59]⟩,⟨#[47,111,108,100,47,49,63,47,111,108,100]⟩,q80q,q118q,q96q,q109q,q122q,by decide,by decide,by decide,by decide,by decide,by decide,app3 (x:=[104,111,115,116,34,42,34,123,114,117,108,101,32,49,123,112,97,116,104,34,47,111,108,100,34,59,116,111,34,117,34,49,59]) (y:=[]) (z:=[115,101,116,34,66,34,61,34,57,34,59,100,114,111,112,34,99,34,59]) (u:=[125,125]) rfl rfl rfl rfl,app2 (x:=[71,69,84,32]) (y:=[47,111,108,100,47,49,63,47,111,108,100]) (z:=[32,72,84,84,80,47,49,46,49,13,10,104,111,115,116,58,32,104,13,10]) rfl rfl rfl,rfl,rfl,rfl,rfl,fun _=>rfl,fun _=>rfl,fun _=>rfl,fun _=>rfl⟩
 | 1,_=>⟨Ed.t1,Ed.h1,Ed.dr1,Ed.se1,Ed.ob1,Ed.x1,⟨#[114,101,112,108,97,99,101,34,47,110,101,119,34,59]⟩,⟨#[115,101,116,34,110,34,61,34,34,59]⟩,⟨#[47,110,101,119,47,49,63,47,111,108,100]⟩,q81q,q119q,q97q,q110q,q123q,by decide,by decide,by decide,by decide,by decide,by decide,app3 (x:=[104,111,115,116,34,42,34,123,114,117,108,101,32,49,123,112,97,116,104,34,47,111,108,100,34,59,116,111,34,117,34,49,59]) (y:=[114,101,112,108,97,99,101,34,47,110,101,119,34,59]) (z:=[115,101,116,34,110,34,61,34,34,59]) (u:=[125,125]) rfl rfl rfl rfl,app2 (x:=[71,69,84,32]) (y:=[47,110,101,119,47,49,63,47,111,108,100]) (z:=[32,72,84,84,80,47,49,46,49,13,10,104,111,115,116,58,32,104,13,10]) rfl rfl rfl,rfl,rfl,rfl,rfl,fun _=>rfl,fun _=>rfl,fun _=>rfl,fun _=>rfl⟩
 | 2,_=>⟨Ed.t2,Ed.h2,Ed.dr2,Ed.se2,Ed.ob2,Ed.x2,⟨#[]⟩,⟨#[100,114,111,112,34,65,34,59,100,114,111,112,34,98,34,59]⟩,⟨#[47,111,108,100,47,49,63,47,111,108,100]⟩,q82q,q120q,q98q,q111q,q124q,by decide,by decide,by decide,by decide,by decide,by decide,app3 (x:=[104,111,115,116,34,42,34,123,114,117,108,101,32,49,123,112,97,116,104,34,47,111,108,100,34,59,116,111,34,117,34,49,59]) (y:=[]) (z:=[100,114,111,112,34,65,34,59,100,114,111,112,34,98,34,59]) (u:=[125,125]) rfl rfl rfl rfl,app2 (x:=[71,69,84,32]) (y:=[47,111,108,100,47,49,63,47,111,108,100]) (z:=[32,72,84,84,80,47,49,46,49,13,10,104,111,115,116,58,32,104,13,10]) rfl rfl rfl,rfl,rfl,rfl,rfl,fun _=>rfl,fun _=>rfl,fun _=>rfl,fun _=>rfl⟩
 | 3,_=>⟨Ed.t3,Ed.h3,Ed.dr3,Ed.se3,Ed.ob3,Ed.x3,⟨#[114,101,112,108,97,99,101,34,47,34,59]⟩,⟨#[115,101,116,34,97,34,61,34,120,32,121,34,59,115,101,116,34,99,34,61,34,55,34,59]⟩,⟨#[47,47,49,63,47,111,108,100]⟩,q83q,q121q,q99q,q112q,q125q,by decide,by decide,by decide,by decide,by decide,by decide,app3 (x:=[104,111,115,116,34,42,34,123,114,117,108,101,32,49,123,112,97,116,104,34,47,111,108,100,34,59,116,111,34,117,34,49,59]) (y:=[114,101,112,108,97,99,101,34,47,34,59]) (z:=[115,101,116,34,97,34,61,34,120,32,121,34,59,115,101,116,34,99,34,61,34,55,34,59]) (u:=[125,125]) rfl rfl rfl rfl,app2 (x:=[71,69,84,32]) (y:=[47,47,49,63,47,111,108,100]) (z:=[32,72,84,84,80,47,49,46,49,13,10,104,111,115,116,58,32,104,13,10]) rfl rfl rfl,rfl,rfl,rfl,rfl,fun _=>rfl,fun _=>rfl,fun _=>rfl,fun _=>rfl⟩
 | k+4,h=>absurd h (by omega)
theorem zsR {dr:Nat->Bool}{se:Nat->List UInt8}{s:List UInt8×(Nat->Bool)×Nat}{n:Nat}(h:dr n=true):Ed.step dr se s n=(s.1,s.2.1,s.2.2+1):=by unfold Ed.step;rw[if_pos h]
theorem zsS {dr:Nat->Bool}{se:Nat->List UInt8}{s:List UInt8×(Nat->Bool)×Nat}{n:Nat}(h:dr n=false)(h2:se n=[]):Ed.step dr se s n=(s.1++Ed.piece n (R.dec s.2.2),s.2.1,s.2.2+1):=by unfold Ed.step;rw[if_neg (by rw[h];decide),if_pos h2]
theorem q133q {dr:Nat->Bool}{se:Nat->List UInt8}{s:List UInt8×(Nat->Bool)×Nat}{n:Nat}(h:dr n=false)(h2:se n≠[])(h3:s.2.1 n=true):Ed.step dr se s n=(s.1,s.2.1,s.2.2+1):=by unfold Ed.step;rw[if_neg (by rw[h];decide),if_neg h2,if_pos h3]
theorem q132q {dr:Nat->Bool}{se:Nat->List UInt8}{s:List UInt8×(Nat->Bool)×Nat}{n:Nat}(h:dr n=false)(h2:se n≠[])(h3:s.2.1 n=false):Ed.step dr se s n=(s.1++Ed.piece n (se n),(fun x=>if x=n then true else s.2.1 x),s.2.2+1):=by unfold Ed.step;rw[if_neg (by rw[h];decide),if_neg h2,if_neg (by rw[h3];decide)]
theorem q127q {se:Nat->List UInt8}{dn:Nat->Bool}{q:Nat}(h:se q=[]\/dn q=true):Ed.end se dn (q+1)=Ed.end se dn q:=by
 rw[Ed.end,if_neg,xn]
 rcases h with h | h <;> simp[h]
theorem zrV {se:Nat->List UInt8}{dn:Nat->Bool}{q:Nat}(h:se q≠[])(h2:dn q=false):Ed.end se dn (q+1)=Ed.end se dn q++Ed.piece q (se q):=by
 rw[Ed.end,if_pos]
 simp[h,h2]
theorem q64q (l:List UInt8):((R.str l).toList == [])=decide (l=[]):=by
 rw[ByteArray.toList_eq,R.str_toList,Bool.eq_iff_iff];simp
theorem q17q {w:World}(G:G3 w)(ao:Option Addr)(aR:Nat)(zs:List Int)(hz:Zs w ao zs)(ah:Int)(hw:-9223372036854775808<=ah/\ah<=9223372036854775807) :
  Calls Tryz.prog 12 #[.slice ao zs.length aR,.int .i64 ah] w fun e w'=>e = .returned (.bool true)/\w.grownBy w' none:=by
 have aZ:=Kp.pick_lt ah (n:=4) (by decide)
 have HP:Y (∀W,Calls Tryz.prog 21 #[.int .i64 ah,.int .i64 4] W fun e w'=>e = .returned (.int .i64 (Kp.pick ah 4:Nat))/\w'=W):=fun W=>q73q ah 4 W hw (by decide)
 generalize Kp.pick ah 4=k at*
 obtain⟨t,h,dr,se,ob,x,ak,ed,pa,po⟩:=ztJ k aZ
 have PO:=hid po
 have aB:=hid (zkV G)
 have aF:Y (∀W,w.grownBy W none->Calls Tryz.prog 20 #[.string ((⟨#[104,111,115,116,34,42,34,123,114,117,108,101,32,49,123,112,97,116,104,34,47,111,108,100,34,59,116,111,34,117,34,49,59]⟩:ByteArray)++ak++ed++⟨#[125,125]⟩)] W fun e w'=>∃yb tv cb,e = .returned (.pointer (some ⟨yb,0,none⟩))/\KY W w' yb tv [some cb] Yd.new.opened/\TabAt w' tv h):=fun W hW=>by
  rw[po.tx]
  exact zkX (G.grown hW) po.tl po.err po.pack po.valid po.fits (by have:=fb po.valid;omega)
 have aO:Y (∀(i:Nat) W,i<1000000->Calls Tryz.prog 25 #[.int .i64 i] W fun e w'=>e = .returned (.string (R.str (R.dec i)))/\w'=W):=fun i W hi=>q72q i W hi
 have HZ:=hid hz
 have au:Y (∀(z:Int) W,-9223372036854775808<=z/\z<=9223372036854775807->Calls Tryz.prog 21 #[.int .i64 z,.int .i64 3] W fun e w'=>e = .returned (.int .i64 (Kp.pick z 3:Nat))/\w'=W):=fun z W hz=>q73q z 3 W hz (by decide)
 have zr:=po.zr
 have ze:=po.ze
 have a9:(⟨#[104,111,115,116,34,42,34,123,114,117,108,101,32,49,123,112,97,116,104,34,47,111,108,100,34,59,116,111,34,117,34,49,59]⟩:ByteArray).size=33:=by decide
 have ba:((⟨#[104,111,115,116,34,42,34,123,114,117,108,101,32,49,123,112,97,116,104,34,47,111,108,100,34,59,116,111,34,117,34,49,59]⟩:ByteArray)++ak).size<=200:=by rw[ByteArray.size_append];omega
 have bb:((⟨#[104,111,115,116,34,42,34,123,114,117,108,101,32,49,123,112,97,116,104,34,47,111,108,100,34,59,116,111,34,117,34,49,59]⟩:ByteArray)++ak++ed).size<=300:=by rw[ByteArray.size_append,ByteArray.size_append];omega
 have bf:(k:Int)<4:=by omega
 clear hz hw a9 po
 go_enter Tryz.func12,Tryz.ntmps12
 go_wp2_with fail
 refine aB.o.mono ?_
 rintro e w1 ⟨rfl,g1⟩
 have G1:=hid g1
 clear aB g1
 go_wp2_with fail
 refine(HP.o _).mono ?_
 rintro e W1 ⟨rfl,aJ⟩
 obtain rfl:=aJ.symm
 clear HP aJ
 have gA:=zA (zJ w1 (.cells #[.string ⟨#[]⟩,.string ⟨#[114,101,112,108,97,99,101,34,47,110,101,119,34,59]⟩,.string ⟨#[]⟩,.string ⟨#[114,101,112,108,97,99,101,34,47,34,59]⟩] 9) none) (zJ (w1.alloc (.cells #[.string ⟨#[]⟩,.string ⟨#[114,101,112,108,97,99,101,34,47,110,101,119,34,59]⟩,.string ⟨#[]⟩,.string ⟨#[114,101,112,108,97,99,101,34,47,34,59]⟩] 9)) (.cells #[.string ⟨#[115,101,116,34,66,34,61,34,57,34,59,100,114,111,112,34,99,34,59]⟩,.string ⟨#[115,101,116,34,110,34,61,34,34,59]⟩,.string ⟨#[100,114,111,112,34,65,34,59,100,114,111,112,34,98,34,59]⟩,.string ⟨#[115,101,116,34,97,34,61,34,120,32,121,34,59,115,101,116,34,99,34,61,34,55,34,59]⟩] 9) none)
 have GA:=hid (zA G1.o gA)
 clear gA
 have aS:(w1.alloc (.cells #[.string ⟨#[]⟩,.string ⟨#[114,101,112,108,97,99,101,34,47,110,101,119,34,59]⟩,.string ⟨#[]⟩,.string ⟨#[114,101,112,108,97,99,101,34,47,34,59]⟩] 9)).cell? ⟨w1.heap.size,k,none⟩=some (.string ak):=(z8 (q1q [.cells #[.string ⟨#[]⟩,.string ⟨#[114,101,112,108,97,99,101,34,47,110,101,119,34,59]⟩,.string ⟨#[]⟩,.string ⟨#[114,101,112,108,97,99,101,34,47,34,59]⟩] 9] w1 0 _ rfl)).trans PO.o.cr
 have aQ:((w1.alloc (.cells #[.string ⟨#[]⟩,.string ⟨#[114,101,112,108,97,99,101,34,47,110,101,119,34,59]⟩,.string ⟨#[]⟩,.string ⟨#[114,101,112,108,97,99,101,34,47,34,59]⟩] 9)).alloc (.cells #[.string ⟨#[115,101,116,34,66,34,61,34,57,34,59,100,114,111,112,34,99,34,59]⟩,.string ⟨#[115,101,116,34,110,34,61,34,34,59]⟩,.string ⟨#[100,114,111,112,34,65,34,59,100,114,111,112,34,98,34,59]⟩,.string ⟨#[115,101,116,34,97,34,61,34,120,32,121,34,59,115,101,116,34,99,34,61,34,55,34,59]⟩] 9)).cell? ⟨w1.heap.size+1,k,none⟩=some (.string ed):=(z8 (q1q [.cells #[.string ⟨#[]⟩,.string ⟨#[114,101,112,108,97,99,101,34,47,110,101,119,34,59]⟩,.string ⟨#[]⟩,.string ⟨#[114,101,112,108,97,99,101,34,47,34,59]⟩] 9,.cells #[.string ⟨#[115,101,116,34,66,34,61,34,57,34,59,100,114,111,112,34,99,34,59]⟩,.string ⟨#[115,101,116,34,110,34,61,34,34,59]⟩,.string ⟨#[100,114,111,112,34,65,34,59,100,114,111,112,34,98,34,59]⟩,.string ⟨#[115,101,116,34,97,34,61,34,120,32,121,34,59,115,101,116,34,99,34,61,34,55,34,59]⟩] 9] w1 1 _ rfl)).trans PO.o.ce
 go_wp2_with fail
 refine(aF.o _ GA.o).mono ?_
 rintro e w2 ⟨yb,tv,cb,rfl,k2,t2⟩
 have K2:=hid k2
 have T2:=hid t2
 have G2:=hid (zA GA.o k2.gr)
 have GB:=hid (G.grown GA.o)
 clear aF k2 t2 ba bb G1
 clear aS aQ
 generalize((w1.alloc (.cells #[.string ⟨#[]⟩,.string ⟨#[114,101,112,108,97,99,101,34,47,110,101,119,34,59]⟩,.string ⟨#[]⟩,.string ⟨#[114,101,112,108,97,99,101,34,47,34,59]⟩] 9)).alloc (.cells #[.string ⟨#[115,101,116,34,66,34,61,34,57,34,59,100,114,111,112,34,99,34,59]⟩,.string ⟨#[115,101,116,34,110,34,61,34,34,59]⟩,.string ⟨#[100,114,111,112,34,65,34,59,100,114,111,112,34,98,34,59]⟩,.string ⟨#[115,101,116,34,97,34,61,34,120,32,121,34,59,115,101,116,34,99,34,61,34,55,34,59]⟩] 9))=wa at*
 have bl:=PO.o.zp
 have a6:(⟨#[71,69,84,32]⟩:ByteArray).size=4:=by decide
 have a7:((⟨#[71,69,84,32]⟩:ByteArray)++pa).size<=100:=by rw[ByteArray.size_append];omega
 have ca:(w2.alloc (.cells #[.string ⟨#[47,111,108,100,47,49,63,47,111,108,100]⟩,.string ⟨#[47,110,101,119,47,49,63,47,111,108,100]⟩,.string ⟨#[47,111,108,100,47,49,63,47,111,108,100]⟩,.string ⟨#[47,47,49,63,47,111,108,100]⟩] 9)).cell? ⟨w2.heap.size,k,none⟩=some (.string pa):=(z8 (q1q ((Ed.objs w2.heap.size).take 1) w2 0 _ rfl)).trans PO.o.cp
 have aT:(((((((w2.alloc (.cells #[.string ⟨#[47,111,108,100,47,49,63,47,111,108,100]⟩,.string ⟨#[47,110,101,119,47,49,63,47,111,108,100]⟩,.string ⟨#[47,111,108,100,47,49,63,47,111,108,100]⟩,.string ⟨#[47,47,49,63,47,111,108,100]⟩] 9)).alloc (.cells #[.string ⟨#[97]⟩,.string ⟨#[98]⟩,.string ⟨#[99]⟩] 9)).alloc (.cells #[.string ⟨#[]⟩,.string ⟨#[57]⟩,.string ⟨#[]⟩] 9)).alloc (.cells #[.string ⟨#[]⟩,.string ⟨#[]⟩,.string ⟨#[]⟩] 9)).alloc (.cells #[.string ⟨#[]⟩,.string ⟨#[]⟩,.string ⟨#[]⟩] 9)).alloc (.cells #[.string ⟨#[120,32,121]⟩,.string ⟨#[]⟩,.string ⟨#[55]⟩] 9)).alloc (.cells #[.slice (some ⟨w2.heap.size+1+1,0,none⟩) 3 3,.slice (some ⟨w2.heap.size+1+1+1,0,none⟩) 3 3,.slice (some ⟨w2.heap.size+1+1+1+1,0,none⟩) 3 3,.slice (some ⟨w2.heap.size+1+1+1+1+1,0,none⟩) 3 3] 22)).cell? ⟨w2.heap.size+1+1+1+1+1+1,k,none⟩=some (.slice (some ⟨w2.heap.size+(2+k),0,none⟩) 3 3):=(z8 (q1q ((Ed.objs w2.heap.size).take 7) w2 6 _ rfl)).trans (PO.o.cs _)
 have aU:((((((((((((w2.alloc (.cells #[.string ⟨#[47,111,108,100,47,49,63,47,111,108,100]⟩,.string ⟨#[47,110,101,119,47,49,63,47,111,108,100]⟩,.string ⟨#[47,111,108,100,47,49,63,47,111,108,100]⟩,.string ⟨#[47,47,49,63,47,111,108,100]⟩] 9)).alloc (.cells #[.string ⟨#[97]⟩,.string ⟨#[98]⟩,.string ⟨#[99]⟩] 9)).alloc (.cells #[.string ⟨#[]⟩,.string ⟨#[57]⟩,.string ⟨#[]⟩] 9)).alloc (.cells #[.string ⟨#[]⟩,.string ⟨#[]⟩,.string ⟨#[]⟩] 9)).alloc (.cells #[.string ⟨#[]⟩,.string ⟨#[]⟩,.string ⟨#[]⟩] 9)).alloc (.cells #[.string ⟨#[120,32,121]⟩,.string ⟨#[]⟩,.string ⟨#[55]⟩] 9)).alloc (.cells #[.slice (some ⟨w2.heap.size+1+1,0,none⟩) 3 3,.slice (some ⟨w2.heap.size+1+1+1,0,none⟩) 3 3,.slice (some ⟨w2.heap.size+1+1+1+1,0,none⟩) 3 3,.slice (some ⟨w2.heap.size+1+1+1+1+1,0,none⟩) 3 3] 22)).alloc (.cells #[.bool false,.bool false,.bool true] 4)).alloc (.cells #[.bool false,.bool false,.bool false] 4)).alloc (.cells #[.bool true,.bool true,.bool false] 4)).alloc (.cells #[.bool false,.bool false,.bool false] 4)).alloc (.cells #[.slice (some ⟨w2.heap.size+1+1+1+1+1+1+1,0,none⟩) 3 3,.slice (some ⟨w2.heap.size+1+1+1+1+1+1+1+1,0,none⟩) 3 3,.slice (some ⟨w2.heap.size+1+1+1+1+1+1+1+1+1,0,none⟩) 3 3,.slice (some ⟨w2.heap.size+1+1+1+1+1+1+1+1+1+1,0,none⟩) 3 3] 63)).cell? ⟨w2.heap.size+1+1+1+1+1+1+1+1+1+1+1,k,none⟩=some (.slice (some ⟨w2.heap.size+(7+k),0,none⟩) 3 3):=(z8 (q1q ((Ed.objs w2.heap.size).take 12) w2 11 _ rfl)).trans (PO.o.cd _)
 go_upto_region 14 with fail
 go_cut [15] (fun dv wz=>dv = .slice (some ⟨w2.heap.size+1+1+1+1+1+1+1+1+1+1+1+1,0,none⟩) 3 3/\Y (wz=(Ed.objs w2.heap.size).foldl World.alloc w2))
 case first=>
  go_wp2_with fail
  go_meet
  case rel=>exact⟨rfl,rfl⟩
 case rest=>
  obtain⟨rfl,HW⟩:=hcut
  rw[PO.o.op]
  have BI:Y (Ed.Blk w2 wc (w2.heap.size+1) (w2.heap.size+(2+k)) (w2.heap.size+(7+k)) (w2.heap.size+1+1+1+1+1+1+1+1+1+1+1+1) se dr (fun _=>false)):=by
   show Ed.Blk _ _ _ _ _ _ _ _ _
   rw[HW.o]
   exact⟨q8q _ _,q1q (Ed.objs w2.heap.size) w2 1 _ rfl,q1q (Ed.objs w2.heap.size) w2 (2+k) _ (PO.o.os _),q1q (Ed.objs w2.heap.size) w2 (7+k) _ (PO.o.od _),q1q (Ed.objs w2.heap.size) w2 12 _ rfl⟩
  have a3:w2.heap.size<=w2.heap.size+1+1+1+1+1+1+1+1+1+1+1+1:=by omega
  have a4:w2.heap.size+(7+k)≠w2.heap.size+1+1+1+1+1+1+1+1+1+1+1+1:=by omega
  clear HW a7 a6 ca aT aU
  generalize wc=w3 at*
  generalize w2.heap.size+1+1+1+1+1+1+1+1+1+1+1+1=gz at*
  generalize w2.heap.size+(7+k)=gd at*
  generalize w2.heap.size+(2+k)=gs at*
  generalize w2.heap.size+1=gn at*
  have bi:=ztR zs
  have ax:=hid (zu6 zs)
  have aq:=hid (fun j h1 h2 h3=>zu5 zs j h1 h2 h3)
  generalize Ed.ns zs=ns at*
  have av:Y (∀j,j<ns.length->∃n,n<3/\(∀h1:j<zs.length,j<11->Kp.pick zs[j] 3=n)/\Ed.txt 0 (ns.take (j+1))=Ed.txt 0 (ns.take j)++(Ed.ln n j++[13,10])/\Ed.run dr se (ns.take (j+1))=Ed.step dr se (Ed.run dr se (ns.take j)) n):=fun j hj=>by
   have e1:ns.take (j+1)=ns.take j++[ns[j]]:=by rw[List.take_add_one,qN hj];rfl
   have e2:(ns.take j).length=j:=by rw[List.length_take];omega
   refine⟨ns[j],ax.o _ (List.getElem_mem hj),fun h1 h2=>(aq.o j h1 h2 hj).symm,?_,?_⟩
   ·rw[e1,q75q,e2,Nat.zero_add]
   ·rw[e1,q130q]
  have ap:Y (∀j,j<=ns.length->j<=11->(Ed.txt 0 (ns.take j)).length<=66/\(Ed.run dr se (ns.take j)).1.length<=110/\(Ed.run dr se (ns.take j)).2.2=j):=fun j hj aI=>by
   have e2:(ns.take j).length=j:=by rw[List.length_take];omega
   have hm:∀n∈ns.take j,n<3:=fun n hn=>ax.o n (List.mem_of_mem_take hn)
   have h1:=q135q (ns.take j) 0 hm (by omega)
   have h2:=q129q dr se PO.o.sel (ns.take j) ([],(fun _=>false),0) hm (zl _) (by show 0+_<=11;omega)
   have h3:(0:Nat)+(ns.take j).length=j:=by omega
   refine⟨by omega,?_,?_⟩
   ·have:=h2.1
    have e:(([]:List UInt8),(fun _:Nat=>false),(0:Nat)).2.2=0:=rfl
    rw[e,h3] at this
    exact zp this (by omega)
   ·exact h2.2.trans h3
  go_wp2_with fail
  go_loopw [9,11,16] (fun inv outv iv wr=>∃j:Nat,j<=ns.length/\j<=11/\iv = .int .i64 j/\inv = .string (R.str (Ed.inb++Ed.txt 0 (ns.take j)))/\outv = .string (R.str (ob++(Ed.run dr se (ns.take j)).1))/\Y (Ed.Blk w2 wr gn gs gd gz se dr (Ed.run dr se (ns.take j)).2.1)) (fun _ _ iv _=>11 - (intOf iv).toNat)
  case atStart=>exact⟨0,zl _,zl _,rfl,rfl,by rw[show ob++(Ed.run dr se (ns.take 0)).1=ob from xn _],BI⟩
  case round=>
   obtain⟨j,hj,aX,rfl,rfl,rfl,HI⟩:=hrel
   clear BI
   obtain⟨l1,l2,l3⟩:=ap.o j hj aX
   have aW:Ed.inb.length=35:=rfl
   have bj:ob.length<=40:=PO.o.obl
   by_cases bg:j<ns.length
   ·have aw:j<zs.length:=by omega
    have aI:j<11:=by omega
    have aL:(j:Int)<zs.length:=by omega
    have aY:(j:Int)<11:=by omega
    obtain⟨n,hn,aj,aH,aG⟩:=av.o j (by omega)
    have aj:=aj aw aI
    obtain⟨b,o,rfl,hc,hr⟩:=HZ.o j aw
    have cx:wr.cell? ⟨b,o+j,none⟩=some (.int .i64 zs[j]):=(zA G2.o HI.o.gr).cell hc (by simp)
    have ar:=hid (au.o zs[j] wr hr)
    rw[aj] at ar
    have bc:(R.str (R.dec j)).size<=2:=by rw[R.str_size];exact R.dec_len j 1 (by omega)
    have aC:Y (∀W,Calls Tryz.prog 25 #[.int .i64 j] W fun e w'=>e = .returned (.string (R.str (R.dec j)))/\w'=W):=fun W=>aO.o j W (by omega)
    have aE:=hid aH
    have aP:=hid aG
    have be:j+1<=ns.length:=by omega
    generalize Ed.txt 0 (ns.take j)=tx at*
    generalize Ed.run dr se (ns.take j)=rn at*
    clear aH aG aj hc av ap aq HZ au hr
    generalize zs[j]=z at*
    have bh:(n:Int)<3:=by omega
    have a1:=zt9 n
    have cn:wr.cell? ⟨gn,n,none⟩=some (.string (R.str (Ed.nm n))):=(z8 HI.o.nm).trans (at3 _ n hn)
    have cs:wr.cell? ⟨gs,n,none⟩=some (.string (R.str (se n))):=(z8 HI.o.st).trans (at3 _ n hn)
    have cd:wr.cell? ⟨gd,n,none⟩=some (.bool (dr n)):=(z8 HI.o.dr).trans (at3 _ n hn)
    have cz:wr.cell? ⟨gz,n,none⟩=some (.bool (rn.2.1 n)):=(z8 HI.o.dn).trans (at3 _ n hn)
    go_wp2_with fail
    refine ar.o.mono ?_
    rintro e W9 ⟨rfl,aK⟩
    obtain rfl:=aK.symm
    clear ar aK cx
    have ag:Y (Ed.run dr se (ns.take (j+1))=Ed.step dr se rn n):=aP.o
    have aA:Y (R.str (Ed.inb++tx)++R.str (Ed.nm n)++⟨#[58]⟩++R.str (R.dec j)++⟨#[13,10]⟩=R.str (Ed.inb++Ed.txt 0 (ns.take (j+1)))):=zu4.trans (by rw[aE.o,xY])
    obtain⟨za,zb,zc,zd⟩:=q88q (n:=n) (a:=Ed.inb++tx) (cb:=⟨#[58]⟩) (vb:=R.str (R.dec j)) (by rw[zW,aW];omega) (by decide) (by omega)
    go_upto_region 19 with fail
    go_wp2_with fail
    go_quiet ((go_at_call 25;exact Calls.quiet_of_same (aC.o _)))
    have ab:=hid (HI.o.keep (vu wr nq))
    rw[aA.o]
    generalize wr.drewN nq=w5 at*
    clear HI aA za zb zc zd aE cn cs cd cz
    have cn:w5.cell? ⟨gn,n,none⟩=some (.string (R.str (Ed.nm n))):=(z8 ab.o.nm).trans (at3 _ n hn)
    have cs:w5.cell? ⟨gs,n,none⟩=some (.string (R.str (se n))):=(z8 ab.o.st).trans (at3 _ n hn)
    have cd:w5.cell? ⟨gd,n,none⟩=some (.bool (dr n)):=(z8 ab.o.dr).trans (at3 _ n hn)
    have cz:w5.cell? ⟨gz,n,none⟩=some (.bool (rn.2.1 n)):=(z8 ab.o.dn).trans (at3 _ n hn)
    rcases Bool.eq_false_or_eq_true (dr n) with hdr | hdr
    ·have ad:=hid (zsR (se:=se) (s:=rn) hdr)
     rw[hdr] at cd
     clear hdr
     go_wp2_with fail
     go_roundw
     case rel=>exact⟨j+1,by omega,by omega,by go_num,rfl,by rw[ag.o,ad.o],by rw[ag.o,ad.o];exact ab⟩
     case measure=>simp[intOf];omega
    ·rw[hdr] at cd
     by_cases aa:se n=[]
     ·have ad:=hid (zsS (s:=rn) hdr aa)
      have ay:((R.str (se n)).toList == [])=true:=by rw[q64q,aa];rfl
      clear hdr aa
      have af:Y (R.str (ob++rn.1)++R.str (Ed.nm n)++⟨#[58,32]⟩++R.str (R.dec j)++⟨#[13,10]⟩=R.str (ob++(rn.1++Ed.piece n (R.dec rn.2.2)))):=q76q.trans (by rw[l3,xY])
      obtain⟨za,zb,zc,zd⟩:=q88q (n:=n) (a:=ob++rn.1) (cb:=⟨#[58,32]⟩) (vb:=R.str (R.dec j)) (by rw[zW];omega) (by decide) (by omega)
      go_upto_region 22 with fail
      go_wp2_with fail
      go_quiet ((go_at_call 25;exact Calls.quiet_of_same (aC.o _)))
      have an:=hid (ab.o.keep (vu w5 nq))
      rw[af.o]
      generalize w5.drewN nq=w6 at*
      clear ab af za zb zc zd
      go_wp2_with fail
      go_roundw
      case rel=>exact⟨j+1,by omega,by omega,by go_num,rfl,by rw[ag.o,ad.o],by rw[ag.o,ad.o];exact an⟩
      case measure=>simp[intOf];omega
     ·have ay:((R.str (se n)).toList == [])=false:=by rw[q64q];exact decide_eq_false aa
      have fz:w5.frozen? ⟨gz,n,none⟩=false:=zC ab.o.dn
      rcases Bool.eq_false_or_eq_true (rn.2.1 n) with hdn | hdn
      ·have ad:=hid (q133q hdr aa hdn)
       rw[hdn] at cz
       clear hdn aa hdr
       go_wp2_with fail
       go_roundw
       case rel=>exact⟨j+1,by omega,by omega,by go_num,rfl,by rw[ag.o,ad.o],by rw[ag.o,ad.o];exact ab⟩
       case measure=>simp[intOf];omega
      ·have ad:=hid (q132q hdr aa hdn)
       rw[hdn] at cz
       clear hdn aa hdr
       have af:Y (R.str (ob++rn.1)++R.str (Ed.nm n)++⟨#[58,32]⟩++R.str (se n)++⟨#[13,10]⟩=R.str (ob++(rn.1++Ed.piece n (se n)))):=q76q.trans (by rw[xY])
       have az:(R.str (se n)).size<=3:=by rw[R.str_size];exact PO.o.sel n hn
       obtain⟨za,zb,zc,zd⟩:=q88q (n:=n) (a:=ob++rn.1) (cb:=⟨#[58,32]⟩) (vb:=R.str (se n)) (by rw[zW];omega) (by decide) az
       go_upto_region 24 with fail
       go_wp2_with fail
       go_quiet (fail)
       rw[af.o]
       have an:=hid ((ab.o.keep (vu w5 nq)).set a3 a4 n hn)
       clear ab af za zb zc zd
       go_wp2_with fail
       go_roundw
       case rel=>exact⟨j+1,by omega,by omega,by go_num,rfl,by rw[ag.o,ad.o],by rw[ag.o,ad.o];exact an⟩
       case measure=>simp[intOf];omega
   ·go_upto_region 16 with fail
    go_cut [75] (fun bv wz=>bv = .bool false/\wz=wr)
    case first=>
     by_cases aw:j<zs.length
     ·have aL:(j:Int)<zs.length:=by omega
      have aY:¬(j:Int)<11:=by omega
      go_wp2_with fail
      go_meet
      case rel=>exact⟨rfl,by first | rfl | trivial⟩
     ·have aL:¬(j:Int)<zs.length:=by omega
      go_wp2_with fail
      go_meet
      case rel=>exact⟨rfl,by first | rfl | trivial⟩
    case rest=>
     obtain⟨rfl,rfl⟩:=hcut
     generalize wc=wr at*
     have aV:ns.take j=ns:=jS (by omega)
     rw[aV] at HI l1 l2 ⊢
     have aD:Y (∀W,w2.grownBy W none->Calls Tryz.prog 23 #[.pointer (some ⟨yb,0,none⟩),.string (R.str (Ed.inb++Ed.txt 0 ns)++⟨#[13,10]⟩)] W fun e w'=>∃a k ps',e = .returned (.slice a 1 k)/\wa.grownBy w' none/\Held w' yb ps' (.slice a 1 k) [⟨1,[117],ob++(Ed.run dr se ns).1++Ed.end se (Ed.run dr se ns).2.1 3++x++[13,10]⟩]):=fun W hW=>by
      have e3:(⟨#[13,10]⟩:ByteArray)=R.str [13,10]:=rfl
      rw[e3,q2q]
      refine(zkW GB.o (K2.o.grown hW).1 (T2.o.grown hW) PO.o.fits PO.o.valid.ok (Ed.inb++Ed.txt 0 ns++[13,10]) (by decide) (by simp only[zW];show _+2<=_;omega) (by decide) (by decide) (by show 1<=1000000;decide)).mono ?_
      rintro e w' ⟨a,k,ps',q1,q2,q3,q4,q5,q6⟩
      have e9:Yd.new.opened=Ed.y0:=rfl
      rw[e9,PO.o.sent ns ax.o (by omega)] at q1 q5
      exact⟨a,k,ps',q1,q2.gr,q5⟩
     clear av ap aq HZ au l3
     generalize Ed.txt 0 ns=tx at*
     generalize Ed.run dr se ns=rn at*
     go_wp2_with fail
     generalize wr=w4 at*
     go_loopw [11,18] (fun outv nv wr=>∃q:Nat,q<=3/\nv = .int .i64 q/\outv = .string (R.str (ob++(rn.1++Ed.end se rn.2.1 q)))/\Y (Ed.Blk w2 wr gn gs gd gz se dr rn.2.1)) (fun _ nv _=>3 - (intOf nv).toNat)
     case atStart=>exact⟨0,zl _,rfl,by rw[show rn.1++Ed.end se rn.2.1 0=rn.1 from xn _],HI⟩
     case round=>
      obtain⟨q,hq,rfl,rfl,HJ⟩:=hrel
      clear HI
      have bd:=q126q se rn.2.1 PO.o.sel q hq
      by_cases hn:q<3
      ·have bk:(q:Int)<3:=by omega
       have cn:wr.cell? ⟨gn,q,none⟩=some (.string (R.str (Ed.nm q))):=(z8 HJ.o.nm).trans (at3 _ q hn)
       have cs:wr.cell? ⟨gs,q,none⟩=some (.string (R.str (se q))):=(z8 HJ.o.st).trans (at3 _ q hn)
       have cd:wr.cell? ⟨gd,q,none⟩=some (.bool (dr q)):=(z8 HJ.o.dr).trans (at3 _ q hn)
       have cz:wr.cell? ⟨gz,q,none⟩=some (.bool (rn.2.1 q)):=(z8 HJ.o.dn).trans (at3 _ q hn)
       by_cases aa:se q=[]
       ·have am:=hid (q127q (dn:=rn.2.1) (Or.inl aa))
        have ay:((R.str (se q)).toList == [])=true:=by rw[q64q,aa];rfl
        clear aa
        go_wp2_with fail
        go_roundw
        case rel=>exact⟨q+1,by omega,by go_num,by rw[am.o],HJ⟩
        case measure=>simp[intOf];omega
       ·have ay:((R.str (se q)).toList == [])=false:=by rw[q64q];exact decide_eq_false aa
        rcases Bool.eq_false_or_eq_true (rn.2.1 q) with hdn | hdn
        ·have am:=hid (q127q (se:=se) (Or.inr hdn))
         rw[hdn] at cz
         clear aa hdn
         go_wp2_with fail
         go_roundw
         case rel=>exact⟨q+1,by omega,by go_num,by rw[am.o],HJ⟩
         case measure=>simp[intOf];omega
        ·have af:Y (R.str (ob++(rn.1++Ed.end se rn.2.1 q))++R.str (Ed.nm q)++⟨#[58,32]⟩++R.str (se q)++⟨#[13,10]⟩=R.str (ob++(rn.1++Ed.end se rn.2.1 (q+1)))):=q76q.trans (by rw[zrV aa hdn];simp only[xY])
         rw[hdn] at cz
         clear aa hdn
         have a1:=zt9 q
         have az:(R.str (se q)).size<=3:=by rw[R.str_size];exact PO.o.sel q hn
         obtain⟨za,zb,zc,zd⟩:=q88q (n:=q) (a:=ob++(rn.1++Ed.end se rn.2.1 q)) (cb:=⟨#[58,32]⟩) (vb:=R.str (se q)) (by rw[zW,zW];omega) (by decide) az
         go_upto_region 30 with fail
         go_wp2_with fail
         go_quiet (fail)
         have aN:=hid (HJ.o.keep (vu wr nq))
         rw[af.o]
         clear HJ af za zb zc zd
         go_wp2_with fail
         go_roundw
         case rel=>exact⟨q+1,by omega,by go_num,rfl,aN⟩
         case measure=>simp[intOf];omega
      ·obtain rfl:q=3:=by omega
       clear hq hn
       rw[show((3:Nat):Int)=3 from rfl]
       have za:(R.str (ob++(rn.1++Ed.end se rn.2.1 3))).size<=200:=by rw[R.str_size,zW,zW];omega
       have ze:(R.str (Ed.inb++tx)).size<=200:=by rw[R.str_size,zW];omega
       have HC:=hid (aD.o wr HJ.o.gr)
       clear aD
       have hx:=PO.o.xe
       by_cases aM:k=1
       ·rw[if_pos aM] at hx
        have a0:(k:Int)=1:=by omega
        have zf:(R.str (ob++(rn.1++Ed.end se rn.2.1 3))++⟨#[110,58,32,13,10]⟩).size<=210:=by rw[ByteArray.size_append];show _+5<=210;omega
        have ai:Y (R.str (ob++rn.1++Ed.end se rn.2.1 3++x++[13,10])=(R.str (ob++(rn.1++Ed.end se rn.2.1 3))++⟨#[110,58,32,13,10]⟩)++⟨#[13,10]⟩):=by
         show _=_
         have e3:(⟨#[13,10]⟩:ByteArray)=R.str [13,10]:=rfl
         have e4:(⟨#[110,58,32,13,10]⟩:ByteArray)=R.str [110,58,32,13,10]:=rfl
         rw[e3,e4,hx,q2q,q2q]
         congr 1 <;> simp
        have a2:(((R.str (ob++(rn.1++Ed.end se rn.2.1 3))++⟨#[110,58,32,13,10]⟩)++⟨#[13,10]⟩).toList == ((R.str (ob++(rn.1++Ed.end se rn.2.1 3))++⟨#[110,58,32,13,10]⟩)++⟨#[13,10]⟩).toList)=true:=by simp
        clear hx
        go_wp2_with fail
        refine HC.o.mono ?_
        rintro e w8 ⟨a8,k8,a5,rfl,g8,h8⟩
        obtain⟨gl,rfl,ae⟩:=q71q h8
        have c0:w8.cell? ⟨gl,0,none⟩=some (.int .i64 1):=(ae 0 (by decide)).trans rfl
        have c1:w8.cell? ⟨gl,1,none⟩=some (.string ⟨#[117]⟩):=(ae 1 (by decide)).trans rfl
        have c2:w8.cell? ⟨gl,2,none⟩=some (.string ((R.str (ob++(rn.1++Ed.end se rn.2.1 3))++⟨#[110,58,32,13,10]⟩)++⟨#[13,10]⟩)):=by rw[<-ai.o];exact(ae 2 (by decide)).trans rfl
        have al:=hid (zA GA.o g8)
        clear HC ae h8 g8 ai
        go_wp2
        go_ret
        exact⟨rfl,al.o⟩
       ·rw[if_neg aM] at hx
        have a0:¬(k:Int)=1:=by omega
        have zf:(R.str (ob++(rn.1++Ed.end se rn.2.1 3))).size<=210:=by omega
        have ai:Y (R.str (ob++rn.1++Ed.end se rn.2.1 3++x++[13,10])=(R.str (ob++(rn.1++Ed.end se rn.2.1 3)))++⟨#[13,10]⟩):=by
         show _=_
         have e3:(⟨#[13,10]⟩:ByteArray)=R.str [13,10]:=rfl
         rw[e3,hx,q2q]
         congr 1 <;> simp
        have a2:(((R.str (ob++(rn.1++Ed.end se rn.2.1 3)))++⟨#[13,10]⟩).toList == ((R.str (ob++(rn.1++Ed.end se rn.2.1 3)))++⟨#[13,10]⟩).toList)=true:=by simp
        clear hx
        go_wp2_with fail
        refine HC.o.mono ?_
        rintro e w8 ⟨a8,k8,a5,rfl,g8,h8⟩
        obtain⟨gl,rfl,ae⟩:=q71q h8
        have c0:w8.cell? ⟨gl,0,none⟩=some (.int .i64 1):=(ae 0 (by decide)).trans rfl
        have c1:w8.cell? ⟨gl,1,none⟩=some (.string ⟨#[117]⟩):=(ae 1 (by decide)).trans rfl
        have c2:w8.cell? ⟨gl,2,none⟩=some (.string ((R.str (ob++(rn.1++Ed.end se rn.2.1 3)))++⟨#[13,10]⟩)):=by rw[<-ai.o];exact(ae 2 (by decide)).trans rfl
        have al:=hid (zA GA.o g8)
        clear HC ae h8 g8 ai
        go_wp2
        go_ret
        exact⟨rfl,al.o⟩
end Go.Proofs.YtfocdefchbnkpaaGreatDoor
