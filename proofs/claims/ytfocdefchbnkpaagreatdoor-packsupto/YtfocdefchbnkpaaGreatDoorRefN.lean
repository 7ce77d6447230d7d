/- A rule in its plain form, as the document's own function writes it. -/
import Derived.Test.YtfocdefchbnkpaaGreatDoorAli
import Derived.Test.YtfocdefchbnkpaaGreatDoorRefJ
set_option maxRecDepth 100000
set_option maxHeartbeats 20000000
namespace Go.Proofs.YtfocdefchbnkpaaGreatDoor
open Go.RowKit
namespace R
def q (l:List UInt8):List UInt8:=34 :: l++[34]
def decI (n:Int):List UInt8:=dec n.toNat
def lnHead (r:Rl):List UInt8:=[32,32,114,117,108,101,32]++decI r.number++[32,123,10,32,32,32,32,112,97,116,104,32]++q r.path++[59,10]
def lnMt (m:Mt):List UInt8:=[32,32,32,32,104,101,97,100,101,114,32]++q m.name++(if m.ask then [32,61,32]++q m.val else [])++[59,10]
def lnTg (t:List UInt8×Int):List UInt8:=q t.1++[32]++decI t.2
def lnTgs:List (List UInt8×Int)->List UInt8
 | []=>[]
 | t :: l=>lnTg t++(l.map fun u=>[44,32]++lnTg u).flatten
theorem lnTgs_snoc (l:List (List UInt8×Int))(k:Nat)(h:k<l.length):lnTgs (l.take (k+1))=lnTgs (l.take k)++((if k=0 then [] else [44,32])++lnTg l[k]):=by
 cases l with
 | nil=>simp at h
 | cons a l=>
  match k with
  | 0=>simp[lnTgs]
  | k+1=>
   have hk:k<l.length:=by simpa using h
   rw[List.take_succ_cons,List.take_succ_cons,lnTgs,lnTgs,uo hk,fJ,yj]
   simp
def lnTo (r:Rl):List UInt8:=if r.change then [32,32,32,32,114,101,112,108,97,99,101,32]++q r.to++[59,10] else []
def lnSet (t:List UInt8×List UInt8):List UInt8:=[32,32,32,32,115,101,116,32]++q t.1++[32,61,32]++q t.2++[59,10]
def lnDrop (l:List UInt8):List UInt8:=[32,32,32,32,100,114,111,112,32]++q l++[59,10]
def lines (r:Rl):List UInt8:=
 lnHead r++(r.ms.map lnMt).flatten++[32,32,32,32,116,111,32]++lnTgs r.tg++[59,10]++lnTo r++(r.sets.map lnSet).flatten++(r.drops.map lnDrop).flatten++[32,32,125,10]
structure Small (r:Rl):Prop where
 num:0<=r.number/\r.number<=99999
 path:r.path.length<=3000
 ms:r.ms.length<=4000/\∀m∈r.ms,m.name.length<=3000/\m.val.length<=3000
 tg:r.tg.length<=4000/\∀t∈r.tg,t.1.length<=3000/\0<=t.2/\t.2<=99999
 to:r.to.length<=3000
 sets:r.sets.length<=4000/\∀t∈r.sets,t.1.length<=3000/\t.2.length<=3000
 drops:r.drops.length<=4000/\∀t∈r.drops,t.length<=3000
theorem q_len (l:List UInt8):(q l).length=l.length+2:=by simp[q]
theorem decI_len (n:Int)(h:0<=n/\n<=99999):(decI n).length<=5:=dec_len n.toNat 4 (by omega)
theorem str_append (a b:List UInt8):str a++str b=str (a++b):=by
 apply yz;rw[qM,str_toList,str_toList,str_toList]
end R
end Go.Proofs.YtfocdefchbnkpaaGreatDoor
namespace Go.Proofs.YtfocdefchbnkpaaGreatDoor
open Go.RowKit
theorem jR (w:World)(n:Nat):w.grownBy (w.drewN n) none:=by
 induction n with
 | zero=>exact ze _ _
 | succ n ih=>exact zD ih (zg _)
theorem zqX {α:Type}(f:α->List Value)(n:Nat)(hf:∀a,(f a).length=n)(l:List α)(k j:Nat)(hk:k<l.length)(hj:j<n):(l.map f).flatten[k*n+j]?=(f l[k])[j]?:=by
 induction l generalizing k with
 | nil=>simp at hk
 | cons a l ih=>
  rw[xl,zf7]
  match k with
  | 0=>rw[List.getElem?_append_left (by rw[hf];omega)];simp
  | k+1=>
   rw[List.getElem?_append_right (by rw[hf,Nat.succ_mul];omega),hf,show(k+1)*n+j - n=k*n+j by rw[Nat.succ_mul];omega,ih k (by simpa using hk)];rfl
theorem qx {w w':World}{α:Type}(f:α->List Value)(n:Nat)(hf:∀a,(f a).length=n){B:Nat}{e:TypeId}{g c:Nat}{l:List α}(h:w.ownsRow B e n (.slice (some ⟨g,0,none⟩) l.length c) l.length (l.map f).flatten)(hg:w.grownBy w' none)(k j:Nat)(hk:k<l.length)(hj:j<n){u:Value}(hu:(f l[k])[j]?=some u):w'.cell? ⟨g,k*n+j,none⟩=some u:=by
 refine hg.cell (a:=⟨g,k*n+j,none⟩) ?_ (by simp)
 have aa:k*n+j<l.length*n:=by
  have h1:(k+1)*n<=l.length*n:=Nat.mul_le_mul_right n (by omega)
  rw[Nat.succ_mul] at h1;omega
 rw[qR h (k*n+j) aa,zqX f n hf l k j hk hj];exact hu
theorem strFlat (l:List (List UInt8)):(l.map fun s=>[Value.string (R.str s)]).flatten=zf l:=by
 unfold zf
 induction l with
 | nil=>rfl
 | cons a l ih=>rw[xl,zf7,ih];rfl
theorem strRow1 {w:World}{B:Nat}{e:TypeId}{v:Value}{l:List (List UInt8)}(h:w.ownsRow B e 1 v l.length (zf l)):w.ownsRow B e 1 v l.length (l.map fun s=>[Value.string (R.str s)]).flatten:=by
 rw[strFlat];exact h
theorem jz {α:Type}(f:α->List UInt8)(l:List α)(k:Nat)(hk:k<l.length):((l.take (k+1)).map f).flatten=((l.take k).map f).flatten++f l[k]:=by
 rw[uo hk,fJ,yj];simp
theorem xx (l:List UInt8)(w:World)(hs:l.length<=100000) :
  Calls Tryz.prog 54 #[.string (R.str l)] w fun e w'=>e = .returned (.string (R.str (R.q l)))/\w'=w:=by
 have:=zoE (R.str l) w (by rw[R.str_size];exact hs)
 rw[R.str_toList] at this
 exact this
theorem uN (n:Int)(w:World)(h:0<=n/\n<=99999) :
  Calls Tryz.prog 91 #[.int .i64 n] w fun e w'=>e = .returned (.string (R.str (R.decI n)))/\w'=w:=by
 have:=ziW n.toNat w (by omega)
 rw[Int.toNat_of_nonneg h.1] at this
 exact this
theorem zmV {w:World}(cs:List Value)(r:R.Rl)(hr:RuleVal w cs r)(hs:R.Small r) :
  Calls Tryz.prog 55 #[.agg cs.toArray] w fun e w'=>e = .returned (.string (R.str (R.lines r)))/\w.grownBy w' none:=by
 obtain⟨vM,vT,vS,vD,rfl,hM,hT,hS,hD⟩:=hr
 obtain⟨m1,m2,rfl⟩:=zO hM
 obtain⟨t1,t2,rfl⟩:=zO hT
 obtain⟨x1,x2,rfl⟩:=zO hS
 obtain⟨d1,d2,rfl⟩:=zO hD
 have HM:Y _:=hM
 have HT:Y _:=hT
 have HS:Y _:=hS
 have HD:Y _:=hD
 have ae:Y _:=hs
 have aZ:Y (r.path.length<=100000):=by have:=hs.path;show _<=_;omega
 have aQ:=hs.num
 have aV:(R.str (R.q r.path)).size<=3002:=by rw[R.str_size,R.q_len];have:=hs.path;omega
 have aU:(R.str (R.decI r.number)).size<=5:=by rw[R.str_size];exact R.decI_len _ hs.num
 have aW:Y _:=aQ
 clear hM hT hS hD hs aQ
 go_enter Tryz.func55,Tryz.ntmps55
 go_wp2_with fail
 go_quiet ((first | (go_at_call 91;exact Calls.quiet_of_same (uN _ _ aW.o)) | (go_at_call 54;exact Calls.quiet_of_same (xx _ _ aZ.o))))
 have ap:Y (w.grownBy ((w.alloc (.cells #[.int .i64 r.number,.string (R.str r.path),.slice m1 r.ms.length m2,.slice t1 r.tg.length t2,.bool r.change,.string (R.str r.to),.slice x1 r.sets.length x2,.slice d1 r.drops.length d2] 126)).drewN nq) none):=zD (zL _ _ _) (jR _ _)
 have al:Y (((w.alloc (.cells #[.int .i64 r.number,.string (R.str r.path),.slice m1 r.ms.length m2,.slice t1 r.tg.length t2,.bool r.change,.string (R.str r.to),.slice x1 r.sets.length x2,.slice d1 r.drops.length d2] 126)).drewN nq).heap[w.heap.size]?=some (.cells #[.int .i64 r.number,.string (R.str r.path),.slice m1 r.ms.length m2,.slice t1 r.tg.length t2,.bool r.change,.string (R.str r.to),.slice x1 r.sets.length x2,.slice d1 r.drops.length d2] 126)):=zF (heap_alloc_new _ _) (jR _ _) (by simp)
 have E1:Y ((⟨#[32,32,114,117,108,101,32]⟩:ByteArray)++R.str (R.decI r.number)++⟨#[32,123,10,32,32,32,32,112,97,116,104,32]⟩++R.str (R.q r.path)++⟨#[59,10]⟩=R.str (R.lnHead r)):=by
  show _=_
  apply yz;rw[qM,qM,qM,qM,R.str_toList,R.str_toList,R.str_toList];rfl
 go_wp2_with fail
 rw[E1.o]
 generalize(w.alloc (.cells #[.int .i64 r.number,.string (R.str r.path),.slice m1 r.ms.length m2,.slice t1 r.tg.length t2,.bool r.change,.string (R.str r.to),.slice x1 r.sets.length x2,.slice d1 r.drops.length d2] 126)).drewN nq=wq at*
 have hz:(R.str (R.lnHead r)).size<=10000:=by
  rw[R.str_size];rw[R.str_size] at aV aU;unfold R.lnHead;simp only[zh,zoF,zmU];omega
 generalize aR:R.lnHead r=pre at*
 have aP:Y (R.lnHead r=pre):=aR
 clear aR aV aU
 go_loopw [3,4] (fun sv iv wr=>∃k:Nat,k<=r.ms.length/\iv = .int .i64 k/\sv = .string (R.str (pre++((r.ms.take k).map R.lnMt).flatten))/\(R.str (pre++((r.ms.take k).map R.lnMt).flatten)).size<=10000+6100*k/\Y (wq.grownBy wr none)) (fun _ iv _=>r.ms.length - (intOf iv).toNat)
 case atStart=>exact⟨0,zo _,rfl,by simp,by simpa using hz,ze _ _⟩
 case round=>
  obtain⟨k,hk,rfl,rfl,ad,HR⟩:=hrel
  have aa:=zF al.o HR.o (by simp)
  have au:wr.cell? ⟨w.heap.size,0,none⟩=some (.int .i64 r.number):=zB aa
  have av:wr.cell? ⟨w.heap.size,1,none⟩=some (.string (R.str r.path)):=zB aa
  have aw:wr.cell? ⟨w.heap.size,2,none⟩=some (.slice m1 r.ms.length m2):=zB aa
  have ax:wr.cell? ⟨w.heap.size,3,none⟩=some (.slice t1 r.tg.length t2):=zB aa
  have ay:wr.cell? ⟨w.heap.size,4,none⟩=some (.bool r.change):=zB aa
  have az:wr.cell? ⟨w.heap.size,5,none⟩=some (.string (R.str r.to)):=zB aa
  have aA:wr.cell? ⟨w.heap.size,6,none⟩=some (.slice x1 r.sets.length x2):=zB aa
  have aB:wr.cell? ⟨w.heap.size,7,none⟩=some (.slice d1 r.drops.length d2):=zB aa
  clear aa
  have aD:w.heap.size<wr.heap.size:=by have h1:=zI al.o;have h2:=HR.o.size;omega
  by_cases ab:k<r.ms.length
  ·obtain⟨gm,aC,af,_,_⟩:=World.ownsRow.form HM.o (by omega)
   simp only[qQ] at af
   obtain⟨rfl,_,rfl⟩:=af
   have hW:w.grownBy wr none:=zD ap.o HR.o
   have e0:wr.cell? ⟨gm,k*3,none⟩=some (.string (R.str r.ms[k].name)):=qx (R.Mt.cells) 3 (fun _=>rfl) HM.o hW k 0 ab (by omega) rfl
   have e1:wr.cell? ⟨gm,k*3+1,none⟩=some (.string (R.str r.ms[k].val)):=qx (R.Mt.cells) 3 (fun _=>rfl) HM.o hW k 1 ab (by omega) rfl
   have e2:wr.cell? ⟨gm,k*3+2,none⟩=some (.bool r.ms[k].ask):=qx (R.Mt.cells) 3 (fun _=>rfl) HM.o hW k 2 ab (by omega) rfl
   clear hW
   have HF:Y _:=jz R.lnMt r.ms k ab
   have ao:=ae.o.ms.1
   have ak:=ae.o.ms.2 r.ms[k] (List.getElem_mem ab)
   have ar:Y (R.lnMt r.ms[k]=[32,32,32,32,104,101,97,100,101,114,32]++R.q r.ms[k].name++(if r.ms[k].ask then [32,61,32]++R.q r.ms[k].val else [])++[59,10]):=rfl
   generalize r.ms[k]=m at*
   have zn:(R.str (R.q m.name)).size<=3002:=by rw[R.str_size,R.q_len];omega
   have zv:(R.str (R.q m.val)).size<=3002:=by rw[R.str_size,R.q_len];omega
   have ag:Y (m.name.length<=100000):=by show _<=_;omega
   have aq:Y (m.val.length<=100000):=by show _<=_;omega
   have an:(R.lnMt m).length<=6100:=by
    rw[ar.o];simp only[zh,R.q_len,zoF,zmU]
    split
    ·simp only[zh,R.q_len,zoF,zmU];omega
    ·simp only[zmU];omega
   clear ak
   have aj:Y ((R.str (pre++((r.ms.take (k+1)).map R.lnMt).flatten)).size<=10000+6100*(k+1)):=by
    show _<=_
    rw[R.str_size] at ad
    rw[R.str_size,HF.o,<-x4,zh];omega
   have ai:Y (∀x:ByteArray,x.data.toList=(pre++((r.ms.take k).map R.lnMt).flatten)++(R.lnMt m)->Value.string x = .string (R.str (pre++((r.ms.take (k+1)).map R.lnMt).flatten))):=by
    intro x hx
    have:x=R.str (pre++((r.ms.take (k+1)).map R.lnMt).flatten):=by
     apply yz;rw[R.str_toList,HF.o,hx,x4]
    rw[<-this]
   clear an
   generalize pre++((r.ms.take k).map R.lnMt).flatten=acc at*
   cases hask:m.ask
   ·rw[hask] at ar
    go_wp2_with fail
    refine(xx m.name _ ag.o).mono ?_
    rintro e wX ⟨rfl,ah⟩
    rw[ah]
    clear ah wX
    go_wp2
    refine⟨⟨k+1,by omega,by go_num,ai.o _ ?_,aj.o,HR.o⟩,by simp[intOf];omega⟩
    rw[qM,qM,qM,R.str_toList,R.str_toList,ar.o];simp
   ·rw[hask] at ar
    go_wp2_with fail
    refine(xx m.name _ ag.o).mono ?_
    rintro e wX ⟨rfl,ah⟩
    rw[ah]
    clear ah wX
    go_wp2_with fail
    refine(xx m.val _ aq.o).mono ?_
    rintro e wX ⟨rfl,ah⟩
    rw[ah]
    clear ah wX
    go_wp2
    refine⟨⟨k+1,by omega,by go_num,ai.o _ ?_,aj.o,HR.o⟩,by simp[intOf];omega⟩
    rw[qM,qM,qM,qM,qM,R.str_toList,R.str_toList,R.str_toList,ar.o];simp
  ·have am:k=r.ms.length:=by omega
   subst am
   rw[tW (zw _)] at ad
   have aX:Y (pre++(r.ms.map R.lnMt).flatten++[32,32,32,32,116,111,32]=pre++(r.ms.map R.lnMt).flatten++[32,32,32,32,116,111,32]):=rfl
   rw[tW (zw _)]
   have ao:=ae.o.ms.1
   have E2:Y (R.str (pre++(r.ms.map R.lnMt).flatten)++⟨#[32,32,32,32,116,111,32]⟩=R.str (pre++(r.ms.map R.lnMt).flatten++[32,32,32,32,116,111,32])):=by
    show _=_;apply yz;rw[qM,R.str_toList,R.str_toList]
   have aT:(R.str (pre++(r.ms.map R.lnMt).flatten++[32,32,32,32,116,111,32])).size<=25000000:=by
    rw[R.str_size] at ad ⊢;rw[zh];simp only[zoF,zmU];omega
   have aL:Y (R.lnHead r++(r.ms.map R.lnMt).flatten++[32,32,32,32,116,111,32]=pre++(r.ms.map R.lnMt).flatten++[32,32,32,32,116,111,32]):=by rw[aP.o];rfl
   clear aX
   go_wp2_with fail
   rw[E2.o]
   generalize pre++(r.ms.map R.lnMt).flatten++[32,32,32,32,116,111,32]=pre2 at*
   clear E2 hz ad aP
   go_loopw [3,5] (fun sv iv wr=>∃k:Nat,k<=r.tg.length/\iv = .int .i64 k/\sv = .string (R.str (pre2++R.lnTgs (r.tg.take k)))/\(R.str (pre2++R.lnTgs (r.tg.take k))).size<=25000000+6100*k/\Y (wq.grownBy wr none)) (fun _ iv _=>r.tg.length - (intOf iv).toNat)
   case atStart=>exact⟨0,zo _,rfl,by simp[R.lnTgs],by simpa[R.lnTgs] using aT,HR.o⟩
   case round=>
    obtain⟨k,hk,rfl,rfl,ad,HR⟩:=hrel
    have aa:=zF al.o HR.o (by simp)
    have au:wr.cell? ⟨w.heap.size,0,none⟩=some (.int .i64 r.number):=zB aa
    have av:wr.cell? ⟨w.heap.size,1,none⟩=some (.string (R.str r.path)):=zB aa
    have aw:wr.cell? ⟨w.heap.size,2,none⟩=some (.slice m1 r.ms.length m2):=zB aa
    have ax:wr.cell? ⟨w.heap.size,3,none⟩=some (.slice t1 r.tg.length t2):=zB aa
    have ay:wr.cell? ⟨w.heap.size,4,none⟩=some (.bool r.change):=zB aa
    have az:wr.cell? ⟨w.heap.size,5,none⟩=some (.string (R.str r.to)):=zB aa
    have aA:wr.cell? ⟨w.heap.size,6,none⟩=some (.slice x1 r.sets.length x2):=zB aa
    have aB:wr.cell? ⟨w.heap.size,7,none⟩=some (.slice d1 r.drops.length d2):=zB aa
    clear aa
    have aD:w.heap.size<wr.heap.size:=by have h1:=zI al.o;have h2:=HR.o.size;omega
    by_cases ab:k<r.tg.length
    ·obtain⟨gm,aC,af,_,_⟩:=World.ownsRow.form HT.o (by omega)
     simp only[qQ] at af
     obtain⟨rfl,_,rfl⟩:=af
     have hW:w.grownBy wr none:=zD ap.o HR.o
     have e0:wr.cell? ⟨gm,k*2,none⟩=some (.string (R.str r.tg[k].1)):=qx (fun t:List UInt8×Int=>[Value.string (R.str t.1),.int .i64 t.2]) 2 (fun _=>rfl) HT.o hW k 0 ab (by omega) rfl
     have e1:wr.cell? ⟨gm,k*2+1,none⟩=some (.int .i64 r.tg[k].2):=qx (fun t:List UInt8×Int=>[Value.string (R.str t.1),.int .i64 t.2]) 2 (fun _=>rfl) HT.o hW k 1 ab (by omega) rfl
     clear hW
     have HF:Y _:=R.lnTgs_snoc r.tg k ab
     have ao:=ae.o.tg.1
     have ak:=ae.o.tg.2 r.tg[k] (List.getElem_mem ab)
     generalize r.tg[k]=m at*
     have zn:(R.str (R.q m.1)).size<=3002:=by rw[R.str_size,R.q_len];omega
     have zv:(R.str (R.decI m.2)).size<=5:=by rw[R.str_size];exact R.decI_len _ ak.2
     have ag:Y (m.1.length<=100000):=by show _<=_;omega
     have aq:Y (0<=m.2/\m.2<=99999):=ak.2
     have an:((if k=0 then [] else [44,32])++R.lnTg m).length<=6100:=by
      rw[R.str_size] at zn zv
      unfold R.lnTg;split <;> simp only[zh,zoF,zmU] <;> omega
     clear ak
     have aj:Y ((R.str (pre2++R.lnTgs (r.tg.take (k+1)))).size<=25000000+6100*(k+1)):=by
      show _<=_
      rw[R.str_size] at ad
      rw[R.str_size,HF.o,<-x4,zh];omega
     have ai:Y (∀x:ByteArray,x.data.toList=(pre2++R.lnTgs (r.tg.take k))++((if k=0 then [] else [44,32])++R.lnTg m)->Value.string x = .string (R.str (pre2++R.lnTgs (r.tg.take (k+1))))):=by
      intro x hx
      have:x=R.str (pre2++R.lnTgs (r.tg.take (k+1))):=by
       apply yz;rw[R.str_toList,HF.o,hx,x4]
      rw[<-this]
     clear an
     generalize pre2++R.lnTgs (r.tg.take k)=acc at*
     by_cases aH:k=0
     ·rw[if_pos aH] at ai
      have aN:(k:Int)<r.tg.length:=by omega
      have aY:(k:Int)<=0:=by omega
      clear aH
      go_wp2_with fail
      go_quiet ((first | (go_at_call 91;exact Calls.quiet_of_same (uN _ _ aq.o)) | (go_at_call 54;exact Calls.quiet_of_same (xx _ _ ag.o))))
      go_wp2
      refine⟨⟨k+1,by omega,by go_num,ai.o _ ?_,aj.o,zD HR.o (jR _ _)⟩,by simp[intOf];omega⟩
      rw[qM,qM,qM,R.str_toList,R.str_toList,R.str_toList,R.lnTg];simp
     ·rw[if_neg aH] at ai
      have aY:(0:Int)<k:=by omega
      have aN:(k:Int)<r.tg.length:=by omega
      clear aH
      go_wp2_with fail
      go_quiet ((first | (go_at_call 91;exact Calls.quiet_of_same (uN _ _ aq.o)) | (go_at_call 54;exact Calls.quiet_of_same (xx _ _ ag.o))))
      go_wp2
      refine⟨⟨k+1,by omega,by go_num,ai.o _ ?_,aj.o,zD HR.o (jR _ _)⟩,by simp[intOf];omega⟩
      rw[qM,qM,qM,qM,R.str_toList,R.str_toList,R.str_toList,R.lnTg];simp
    ·have am:k=r.tg.length:=by omega
     subst am
     rw[tW (zw _)] at ad
     rw[tW (zw _)]
     have ao:=ae.o.tg.1
     have a0:=ae.o.to
     have a2:(R.str (R.q r.to)).size<=3002:=by rw[R.str_size,R.q_len];omega
     have ag:Y (r.to.length<=100000):=by show _<=_;omega
     have aG:Y (R.lnTo r=if r.change then [32,32,32,32,114,101,112,108,97,99,101,32]++R.q r.to++[59,10] else []):=rfl
     have a1:(R.lnTo r).length<=4000:=by
      rw[R.str_size,R.q_len] at a2;unfold R.lnTo
      split
      ·simp only[zh,R.q_len,zoF,zmU];omega
      ·simp
     have aI:(R.str (pre2++R.lnTgs r.tg++[59,10]++R.lnTo r)).size<=50000000:=by
      rw[R.str_size] at ad ⊢;rw[zh,zh];simp only[zoF,zmU];omega
     have a3:Y (R.lnHead r++(r.ms.map R.lnMt).flatten++[32,32,32,32,116,111,32]++R.lnTgs r.tg++[59,10]++R.lnTo r=pre2++R.lnTgs r.tg++[59,10]++R.lnTo r):=by rw[aL.o];rfl
     have E3:Y (∀x:ByteArray,x.data.toList=pre2++R.lnTgs r.tg++[59,10]++R.lnTo r->Value.string x = .string (R.str (pre2++R.lnTgs r.tg++[59,10]++R.lnTo r))):=by
      intro x hx;rw[<-hx,R.str_of]
     have a4:(R.str (pre2++R.lnTgs r.tg)).size<=49500000:=by omega
     generalize hA:pre2++R.lnTgs r.tg=accA at*
     clear ad aT a0 a1
     generalize aS:accA++[59,10]++R.lnTo r=pre3 at*
     have aF:Y (accA++[59,10]++R.lnTo r=pre3):=aS
     clear aS
     cases hch:r.change
     ·rw[hch] at aG
      go_wp2_with fail
      rw[E3.o (R.str accA++⟨#[59,10]⟩) (by rw[qM,R.str_toList,<-aF.o,aG.o];simp)]
      go_loopw [3,6] (fun sv iv wr=>∃k:Nat,k<=r.sets.length/\iv = .int .i64 k/\sv = .string (R.str (pre3++((r.sets.take k).map R.lnSet).flatten))/\(R.str (pre3++((r.sets.take k).map R.lnSet).flatten)).size<=50000000+6100*k/\Y (wq.grownBy wr none)) (fun _ iv _=>r.sets.length - (intOf iv).toNat)
      case atStart=>exact⟨0,zo _,rfl,by simp,by simpa using aI,HR.o⟩
      case round=>
       obtain⟨k,hk,rfl,rfl,ad,HR⟩:=hrel
       have aa:=zF al.o HR.o (by simp)
       have au:wr.cell? ⟨w.heap.size,0,none⟩=some (.int .i64 r.number):=zB aa
       have av:wr.cell? ⟨w.heap.size,1,none⟩=some (.string (R.str r.path)):=zB aa
       have aw:wr.cell? ⟨w.heap.size,2,none⟩=some (.slice m1 r.ms.length m2):=zB aa
       have ax:wr.cell? ⟨w.heap.size,3,none⟩=some (.slice t1 r.tg.length t2):=zB aa
       have ay:wr.cell? ⟨w.heap.size,4,none⟩=some (.bool r.change):=zB aa
       have az:wr.cell? ⟨w.heap.size,5,none⟩=some (.string (R.str r.to)):=zB aa
       have aA:wr.cell? ⟨w.heap.size,6,none⟩=some (.slice x1 r.sets.length x2):=zB aa
       have aB:wr.cell? ⟨w.heap.size,7,none⟩=some (.slice d1 r.drops.length d2):=zB aa
       clear aa
       have aD:w.heap.size<wr.heap.size:=by have h1:=zI al.o;have h2:=HR.o.size;omega
       by_cases ab:k<r.sets.length
       ·obtain⟨gm,aC,af,_,_⟩:=World.ownsRow.form HS.o (by omega)
        simp only[qQ] at af
        obtain⟨rfl,_,rfl⟩:=af
        have hW:w.grownBy wr none:=zD ap.o HR.o
        have e0:wr.cell? ⟨gm,k*2,none⟩=some (.string (R.str r.sets[k].1)):=qx (fun t:List UInt8×List UInt8=>[Value.string (R.str t.1),.string (R.str t.2)]) 2 (fun _=>rfl) HS.o hW k 0 ab (by omega) rfl
        have e1:wr.cell? ⟨gm,k*2+1,none⟩=some (.string (R.str r.sets[k].2)):=qx (fun t:List UInt8×List UInt8=>[Value.string (R.str t.1),.string (R.str t.2)]) 2 (fun _=>rfl) HS.o hW k 1 ab (by omega) rfl
        clear hW
        have HF:Y _:=jz R.lnSet r.sets k ab
        have ao:=ae.o.sets.1
        have ak:=ae.o.sets.2 r.sets[k] (List.getElem_mem ab)
        generalize r.sets[k]=m at*
        have zn:(R.str (R.q m.1)).size<=3002:=by rw[R.str_size,R.q_len];omega
        have zv:(R.str (R.q m.2)).size<=3002:=by rw[R.str_size,R.q_len];omega
        have ag:Y (m.1.length<=100000):=by show _<=_;omega
        have aq:Y (m.2.length<=100000):=by show _<=_;omega
        have aN:(k:Int)<r.sets.length:=by omega
        have an:(R.lnSet m).length<=6100:=by
         unfold R.lnSet;simp only[zh,R.q_len,zoF,zmU];omega
        clear ak
        have aj:Y ((R.str (pre3++((r.sets.take (k+1)).map R.lnSet).flatten)).size<=50000000+6100*(k+1)):=by
         show _<=_
         rw[R.str_size] at ad
         rw[R.str_size,HF.o,<-x4,zh];omega
        have ai:Y (∀x:ByteArray,x.data.toList=(pre3++((r.sets.take k).map R.lnSet).flatten)++(R.lnSet m)->Value.string x = .string (R.str (pre3++((r.sets.take (k+1)).map R.lnSet).flatten))):=by
         intro x hx
         have:x=R.str (pre3++((r.sets.take (k+1)).map R.lnSet).flatten):=by
          apply yz;rw[R.str_toList,HF.o,hx,x4]
         rw[<-this]
        clear an
        generalize pre3++((r.sets.take k).map R.lnSet).flatten=acc at*
        go_wp2_with fail
        go_quiet ((first | (go_at_call_of 54 (.string (R.str m.1));exact Calls.quiet_of_same (xx _ _ ag.o)) | (go_at_call 54;exact Calls.quiet_of_same (xx _ _ ag.o)) | (go_at_call 54;exact Calls.quiet_of_same (xx _ _ aq.o))))
        go_wp2
        refine⟨⟨k+1,by omega,by go_num,ai.o _ ?_,aj.o,zD HR.o (jR _ _)⟩,by simp[intOf];omega⟩
        rw[qM,qM,qM,qM,qM,R.str_toList,R.str_toList,R.str_toList,R.lnSet];simp
       ·have am:k=r.sets.length:=by omega
        subst am
        rw[tW (zw _)] at ad
        rw[tW (zw _)]
        have ao:=ae.o.sets.1
        have aO:(R.str (pre3++(r.sets.map R.lnSet).flatten)).size<=80000000:=by omega
        have aM:Y (pre3++(r.sets.map R.lnSet).flatten=pre3++(r.sets.map R.lnSet).flatten):=rfl
        generalize aE:pre3++(r.sets.map R.lnSet).flatten=pre4 at*
        have aK:Y (pre3++(r.sets.map R.lnSet).flatten=pre4):=aE
        clear aE aM ad aI
        go_wp2_with fail
        go_loopw [3,7] (fun sv iv wr=>∃k:Nat,k<=r.drops.length/\iv = .int .i64 k/\sv = .string (R.str (pre4++((r.drops.take k).map R.lnDrop).flatten))/\(R.str (pre4++((r.drops.take k).map R.lnDrop).flatten)).size<=80000000+6100*k/\Y (wq.grownBy wr none)) (fun _ iv _=>r.drops.length - (intOf iv).toNat)
        case atStart=>exact⟨0,zo _,rfl,by simp,by simpa using aO,HR.o⟩
        case round=>
         obtain⟨k,hk,rfl,rfl,ad,HR⟩:=hrel
         have aa:=zF al.o HR.o (by simp)
         have au:wr.cell? ⟨w.heap.size,0,none⟩=some (.int .i64 r.number):=zB aa
         have av:wr.cell? ⟨w.heap.size,1,none⟩=some (.string (R.str r.path)):=zB aa
         have aw:wr.cell? ⟨w.heap.size,2,none⟩=some (.slice m1 r.ms.length m2):=zB aa
         have ax:wr.cell? ⟨w.heap.size,3,none⟩=some (.slice t1 r.tg.length t2):=zB aa
         have ay:wr.cell? ⟨w.heap.size,4,none⟩=some (.bool r.change):=zB aa
         have az:wr.cell? ⟨w.heap.size,5,none⟩=some (.string (R.str r.to)):=zB aa
         have aA:wr.cell? ⟨w.heap.size,6,none⟩=some (.slice x1 r.sets.length x2):=zB aa
         have aB:wr.cell? ⟨w.heap.size,7,none⟩=some (.slice d1 r.drops.length d2):=zB aa
         clear aa
         have aD:w.heap.size<wr.heap.size:=by have h1:=zI al.o;have h2:=HR.o.size;omega
         by_cases ab:k<r.drops.length
         ·obtain⟨gm,aC,af,_,_⟩:=World.ownsRow.form HD.o (by omega)
          simp only[qQ] at af
          obtain⟨rfl,_,rfl⟩:=af
          have hW:w.grownBy wr none:=zD ap.o HR.o
          have e0:wr.cell? ⟨gm,k,none⟩=some (.string (R.str r.drops[k])):=by have h:=qx (fun s:List UInt8=>[Value.string (R.str s)]) 1 (fun _=>rfl) (strRow1 HD.o) hW k 0 ab (by omega) rfl;simpa using h
          clear hW
          have HF:Y _:=jz R.lnDrop r.drops k ab
          have ao:=ae.o.drops.1
          have ak:=ae.o.drops.2 r.drops[k] (List.getElem_mem ab)
          generalize r.drops[k]=m at*
          have zn:(R.str (R.q m)).size<=3002:=by rw[R.str_size,R.q_len];omega
          have ag:Y (m.length<=100000):=by show _<=_;omega
          have an:(R.lnDrop m).length<=6100:=by
           unfold R.lnDrop;simp only[zh,R.q_len,zoF,zmU];omega
          clear ak
          have aj:Y ((R.str (pre4++((r.drops.take (k+1)).map R.lnDrop).flatten)).size<=80000000+6100*(k+1)):=by
           show _<=_
           rw[R.str_size] at ad
           rw[R.str_size,HF.o,<-x4,zh];omega
          have ai:Y (∀x:ByteArray,x.data.toList=(pre4++((r.drops.take k).map R.lnDrop).flatten)++(R.lnDrop m)->Value.string x = .string (R.str (pre4++((r.drops.take (k+1)).map R.lnDrop).flatten))):=by
           intro x hx
           have:x=R.str (pre4++((r.drops.take (k+1)).map R.lnDrop).flatten):=by
            apply yz;rw[R.str_toList,HF.o,hx,x4]
           rw[<-this]
          clear an
          generalize pre4++((r.drops.take k).map R.lnDrop).flatten=acc at*
          go_wp2_with fail
          refine(xx m _ ag.o).mono ?_
          rintro e wX ⟨rfl,ah⟩
          rw[ah]
          clear ah wX
          go_wp2
          refine⟨⟨k+1,by omega,by go_num,ai.o _ ?_,aj.o,HR.o⟩,by simp[intOf];omega⟩
          rw[qM,qM,qM,R.str_toList,R.str_toList,R.lnDrop];simp
         ·have am:k=r.drops.length:=by omega
          subst am
          rw[tW (zw _)] at ad
          rw[tW (zw _)]
          have ao:=ae.o.drops.1
          have aJ:Y (R.lines r=pre4++(r.drops.map R.lnDrop).flatten++[32,32,125,10]):=by
           show R.lines r=_
           rw[<-aK.o,<-aF.o,<-hA,<-aL.o];rfl
          go_wp2
          go_ret
          refine⟨fH ?_,zD ap.o HR.o⟩
          apply yz
          rw[aJ.o,qM,R.str_toList,R.str_toList]
     ·rw[hch] at aG
      go_wp2_with fail
      refine(xx r.to _ ag.o).mono ?_
      rintro e wX ⟨rfl,ah⟩
      rw[ah]
      clear ah wX
      go_wp2_with fail
      rw[E3.o (R.str accA++⟨#[59,10]⟩++⟨#[32,32,32,32,114,101,112,108,97,99,101,32]⟩++R.str (R.q r.to)++⟨#[59,10]⟩) (by rw[qM,qM,qM,qM,R.str_toList,R.str_toList,<-aF.o,aG.o];simp)]
      go_loopw [3,6] (fun sv iv wr=>∃k:Nat,k<=r.sets.length/\iv = .int .i64 k/\sv = .string (R.str (pre3++((r.sets.take k).map R.lnSet).flatten))/\(R.str (pre3++((r.sets.take k).map R.lnSet).flatten)).size<=50000000+6100*k/\Y (wq.grownBy wr none)) (fun _ iv _=>r.sets.length - (intOf iv).toNat)
      case atStart=>exact⟨0,zo _,rfl,by simp,by simpa using aI,HR.o⟩
      case round=>
       obtain⟨k,hk,rfl,rfl,ad,HR⟩:=hrel
       have aa:=zF al.o HR.o (by simp)
       have au:wr.cell? ⟨w.heap.size,0,none⟩=some (.int .i64 r.number):=zB aa
       have av:wr.cell? ⟨w.heap.size,1,none⟩=some (.string (R.str r.path)):=zB aa
       have aw:wr.cell? ⟨w.heap.size,2,none⟩=some (.slice m1 r.ms.length m2):=zB aa
       have ax:wr.cell? ⟨w.heap.size,3,none⟩=some (.slice t1 r.tg.length t2):=zB aa
       have ay:wr.cell? ⟨w.heap.size,4,none⟩=some (.bool r.change):=zB aa
       have az:wr.cell? ⟨w.heap.size,5,none⟩=some (.string (R.str r.to)):=zB aa
       have aA:wr.cell? ⟨w.heap.size,6,none⟩=some (.slice x1 r.sets.length x2):=zB aa
       have aB:wr.cell? ⟨w.heap.size,7,none⟩=some (.slice d1 r.drops.length d2):=zB aa
       clear aa
       have aD:w.heap.size<wr.heap.size:=by have h1:=zI al.o;have h2:=HR.o.size;omega
       by_cases ab:k<r.sets.length
       ·obtain⟨gm,aC,af,_,_⟩:=World.ownsRow.form HS.o (by omega)
        simp only[qQ] at af
        obtain⟨rfl,_,rfl⟩:=af
        have hW:w.grownBy wr none:=zD ap.o HR.o
        have e0:wr.cell? ⟨gm,k*2,none⟩=some (.string (R.str r.sets[k].1)):=qx (fun t:List UInt8×List UInt8=>[Value.string (R.str t.1),.string (R.str t.2)]) 2 (fun _=>rfl) HS.o hW k 0 ab (by omega) rfl
        have e1:wr.cell? ⟨gm,k*2+1,none⟩=some (.string (R.str r.sets[k].2)):=qx (fun t:List UInt8×List UInt8=>[Value.string (R.str t.1),.string (R.str t.2)]) 2 (fun _=>rfl) HS.o hW k 1 ab (by omega) rfl
        clear hW
        have HF:Y _:=jz R.lnSet r.sets k ab
        have ao:=ae.o.sets.1
        have ak:=ae.o.sets.2 r.sets[k] (List.getElem_mem ab)
        generalize r.sets[k]=m at*
        have zn:(R.str (R.q m.1)).size<=3002:=by rw[R.str_size,R.q_len];omega
        have zv:(R.str (R.q m.2)).size<=3002:=by rw[R.str_size,R.q_len];omega
        have ag:Y (m.1.length<=100000):=by show _<=_;omega
        have aq:Y (m.2.length<=100000):=by show _<=_;omega
        have aN:(k:Int)<r.sets.length:=by omega
        have an:(R.lnSet m).length<=6100:=by
         unfold R.lnSet;simp only[zh,R.q_len,zoF,zmU];omega
        clear ak
        have aj:Y ((R.str (pre3++((r.sets.take (k+1)).map R.lnSet).flatten)).size<=50000000+6100*(k+1)):=by
         show _<=_
         rw[R.str_size] at ad
         rw[R.str_size,HF.o,<-x4,zh];omega
        have ai:Y (∀x:ByteArray,x.data.toList=(pre3++((r.sets.take k).map R.lnSet).flatten)++(R.lnSet m)->Value.string x = .string (R.str (pre3++((r.sets.take (k+1)).map R.lnSet).flatten))):=by
         intro x hx
         have:x=R.str (pre3++((r.sets.take (k+1)).map R.lnSet).flatten):=by
          apply yz;rw[R.str_toList,HF.o,hx,x4]
         rw[<-this]
        clear an
        generalize pre3++((r.sets.take k).map R.lnSet).flatten=acc at*
        go_wp2_with fail
        go_quiet ((first | (go_at_call_of 54 (.string (R.str m.1));exact Calls.quiet_of_same (xx _ _ ag.o)) | (go_at_call 54;exact Calls.quiet_of_same (xx _ _ ag.o)) | (go_at_call 54;exact Calls.quiet_of_same (xx _ _ aq.o))))
        go_wp2
        refine⟨⟨k+1,by omega,by go_num,ai.o _ ?_,aj.o,zD HR.o (jR _ _)⟩,by simp[intOf];omega⟩
        rw[qM,qM,qM,qM,qM,R.str_toList,R.str_toList,R.str_toList,R.lnSet];simp
       ·have am:k=r.sets.length:=by omega
        subst am
        rw[tW (zw _)] at ad
        rw[tW (zw _)]
        have ao:=ae.o.sets.1
        have aO:(R.str (pre3++(r.sets.map R.lnSet).flatten)).size<=80000000:=by omega
        have aM:Y (pre3++(r.sets.map R.lnSet).flatten=pre3++(r.sets.map R.lnSet).flatten):=rfl
        generalize aE:pre3++(r.sets.map R.lnSet).flatten=pre4 at*
        have aK:Y (pre3++(r.sets.map R.lnSet).flatten=pre4):=aE
        clear aE aM ad aI
        go_wp2_with fail
        go_loopw [3,7] (fun sv iv wr=>∃k:Nat,k<=r.drops.length/\iv = .int .i64 k/\sv = .string (R.str (pre4++((r.drops.take k).map R.lnDrop).flatten))/\(R.str (pre4++((r.drops.take k).map R.lnDrop).flatten)).size<=80000000+6100*k/\Y (wq.grownBy wr none)) (fun _ iv _=>r.drops.length - (intOf iv).toNat)
        case atStart=>exact⟨0,zo _,rfl,by simp,by simpa using aO,HR.o⟩
        case round=>
         obtain⟨k,hk,rfl,rfl,ad,HR⟩:=hrel
         have aa:=zF al.o HR.o (by simp)
         have au:wr.cell? ⟨w.heap.size,0,none⟩=some (.int .i64 r.number):=zB aa
         have av:wr.cell? ⟨w.heap.size,1,none⟩=some (.string (R.str r.path)):=zB aa
         have aw:wr.cell? ⟨w.heap.size,2,none⟩=some (.slice m1 r.ms.length m2):=zB aa
         have ax:wr.cell? ⟨w.heap.size,3,none⟩=some (.slice t1 r.tg.length t2):=zB aa
         have ay:wr.cell? ⟨w.heap.size,4,none⟩=some (.bool r.change):=zB aa
         have az:wr.cell? ⟨w.heap.size,5,none⟩=some (.string (R.str r.to)):=zB aa
         have aA:wr.cell? ⟨w.heap.size,6,none⟩=some (.slice x1 r.sets.length x2):=zB aa
         have aB:wr.cell? ⟨w.heap.size,7,none⟩=some (.slice d1 r.drops.length d2):=zB aa
         clear aa
         have aD:w.heap.size<wr.heap.size:=by have h1:=zI al.o;have h2:=HR.o.size;omega
         by_cases ab:k<r.drops.length
         ·obtain⟨gm,aC,af,_,_⟩:=World.ownsRow.form HD.o (by omega)
          simp only[qQ] at af
          obtain⟨rfl,_,rfl⟩:=af
          have hW:w.grownBy wr none:=zD ap.o HR.o
          have e0:wr.cell? ⟨gm,k,none⟩=some (.string (R.str r.drops[k])):=by have h:=qx (fun s:List UInt8=>[Value.string (R.str s)]) 1 (fun _=>rfl) (strRow1 HD.o) hW k 0 ab (by omega) rfl;simpa using h
          clear hW
          have HF:Y _:=jz R.lnDrop r.drops k ab
          have ao:=ae.o.drops.1
          have ak:=ae.o.drops.2 r.drops[k] (List.getElem_mem ab)
          generalize r.drops[k]=m at*
          have zn:(R.str (R.q m)).size<=3002:=by rw[R.str_size,R.q_len];omega
          have ag:Y (m.length<=100000):=by show _<=_;omega
          have an:(R.lnDrop m).length<=6100:=by
           unfold R.lnDrop;simp only[zh,R.q_len,zoF,zmU];omega
          clear ak
          have aj:Y ((R.str (pre4++((r.drops.take (k+1)).map R.lnDrop).flatten)).size<=80000000+6100*(k+1)):=by
           show _<=_
           rw[R.str_size] at ad
           rw[R.str_size,HF.o,<-x4,zh];omega
          have ai:Y (∀x:ByteArray,x.data.toList=(pre4++((r.drops.take k).map R.lnDrop).flatten)++(R.lnDrop m)->Value.string x = .string (R.str (pre4++((r.drops.take (k+1)).map R.lnDrop).flatten))):=by
           intro x hx
           have:x=R.str (pre4++((r.drops.take (k+1)).map R.lnDrop).flatten):=by
            apply yz;rw[R.str_toList,HF.o,hx,x4]
           rw[<-this]
          clear an
          generalize pre4++((r.drops.take k).map R.lnDrop).flatten=acc at*
          go_wp2_with fail
          refine(xx m _ ag.o).mono ?_
          rintro e wX ⟨rfl,ah⟩
          rw[ah]
          clear ah wX
          go_wp2
          refine⟨⟨k+1,by omega,by go_num,ai.o _ ?_,aj.o,HR.o⟩,by simp[intOf];omega⟩
          rw[qM,qM,qM,R.str_toList,R.str_toList,R.lnDrop];simp
         ·have am:k=r.drops.length:=by omega
          subst am
          rw[tW (zw _)] at ad
          rw[tW (zw _)]
          have ao:=ae.o.drops.1
          have aJ:Y (R.lines r=pre4++(r.drops.map R.lnDrop).flatten++[32,32,125,10]):=by
           show R.lines r=_
           rw[<-aK.o,<-aF.o,<-hA,<-aL.o];rfl
          go_wp2
          go_ret
          refine⟨fH ?_,zD ap.o HR.o⟩
          apply yz
          rw[aJ.o,qM,R.str_toList,R.str_toList]
end Go.Proofs.YtfocdefchbnkpaaGreatDoor
namespace Go.Proofs.YtfocdefchbnkpaaGreatDoor
open Go.RowKit
namespace R
theorem flat_len {α:Type}(f:α->List UInt8)(c:Nat)(l:List α)(h:∀a∈l,(f a).length<=c):(l.map f).flatten.length<=l.length*c:=by
 induction l with
 | nil=>simp
 | cons a l ih=>
  rw[xl,zf7,zh,zoF,Nat.succ_mul]
  have h1:=h a (by simp)
  have h2:=ih (fun b hb=>h b (by simp[hb]))
  omega
theorem lines_len (r:Rl)(hs:Small r):(lines r).length<=110000000:=by
 have h1:(r.ms.map lnMt).flatten.length<=r.ms.length*6100:=flat_len _ _ _ (fun m hm=>by
  have:=hs.ms.2 m hm
  unfold lnMt;split <;> simp only[zh,q_len,zoF,zmU] <;> omega)
 have ht:∀t∈r.tg,(lnTg t).length<=3100:=fun t ht=>by
  have h:=hs.tg.2 t ht
  have h5:=decI_len t.2 h.2
  unfold lnTg;simp only[zh,q_len,zoF,zmU];omega
 have h2:(lnTgs r.tg).length<=r.tg.length*3200:=by
  cases hg:r.tg with
  | nil=>simp[lnTgs]
  | cons t l=>
   rw[hg] at ht
   have h3:=ht t (by simp)
   have h4:(l.map fun u=>[44,32]++lnTg u).flatten.length<=l.length*3200:=flat_len _ _ _ (fun u hu=>by
    have:=ht u (by simp[hu]);simp only[zh,zoF,zmU];omega)
   unfold lnTgs
   rw[zh,zoF,Nat.succ_mul];omega
 have h3:(r.sets.map lnSet).flatten.length<=r.sets.length*6100:=flat_len _ _ _ (fun m hm=>by
  have:=hs.sets.2 m hm
  unfold lnSet;simp only[zh,q_len,zoF,zmU];omega)
 have h4:(r.drops.map lnDrop).flatten.length<=r.drops.length*6100:=flat_len _ _ _ (fun m hm=>by
  have:=hs.drops.2 m hm
  unfold lnDrop;simp only[zh,q_len,zoF,zmU];omega)
 have h5:=decI_len r.number hs.num
 have h6:=hs.path
 have h7:=hs.to
 have h8:(lnTo r).length<=4000:=by
  unfold lnTo;split
  ·simp only[zh,q_len,zoF,zmU];omega
  ·simp
 have m1:=hs.ms.1
 have m2:=hs.tg.1
 have m3:=hs.sets.1
 have m4:=hs.drops.1
 unfold lines lnHead
 simp only[zh,q_len,zoF,zmU]
 omega
def hostLines (h:Hst):List UInt8:=[104,111,115,116,32]++q h.name++[32,123,10]++(h.rules.map lines).flatten++[125,10]
def plain (hs:List Hst):List UInt8:=(hs.map hostLines).flatten
structure SmallH (h:Hst):Prop where
 name:h.name.length<=3000
 rules:h.rules.length<=4000/\∀r∈h.rules,Small r
end R
end Go.Proofs.YtfocdefchbnkpaaGreatDoor
namespace Go.Proofs.YtfocdefchbnkpaaGreatDoor
open Go.RowKit
theorem zbD {w:World}{aa:List (List Value)}{hs:List R.Hst}(h:All2 (HostVal w) aa hs)(k:Nat)(hk:k<hs.length):∃vR,aa.flatten[k*2+1]?=some vR/\RulesRow w vR hs[k].rules:=by
 induction h generalizing k with
 | nil=>simp at hk
 | @cons c r cs rs hc _ ih=>
  obtain⟨vR,rfl,hr⟩:=hc
  match k with
  | 0=>exact⟨vR,rfl,hr⟩
  | k+1=>
   obtain⟨v,h1,h2⟩:=ih k (by simpa using hk)
   refine⟨v,?_,h2⟩
   rw[zf7,List.getElem?_append_right (by simp;omega)]
   simp only[zoF,zmU]
   rw[show(k+1)*2+1 - (0+1+1)=k*2+1 by omega]
   exact h1
theorem uZ {w:World}{aa:List (List Value)}{rs:List R.Rl}(h:All2 (RuleVal w) aa rs)(k:Nat)(hk:k<rs.length):∃cs,RuleVal w cs rs[k]/\∀j,j<8->aa.flatten[k*8+j]?=cs[j]?:=by
 induction h generalizing k with
 | nil=>simp at hk
 | @cons c r cs rs hc _ ih=>
  have e:c.length=8:=by obtain⟨vM,vT,vS,vD,rfl,_⟩:=hc;rfl
  match k with
  | 0=>exact⟨c,hc,fun j hj=>by rw[zf7,List.getElem?_append_left (by omega)];simp⟩
  | k+1=>
   obtain⟨d,h1,h2⟩:=ih k (by simpa using hk)
   refine⟨d,h1,fun j hj=>?_⟩
   rw[zf7,List.getElem?_append_right (by omega),e,show(k+1)*8+j - 8=k*8+j by omega,h2 j hj]
theorem zeK {w:World}{B:Nat}(v:Value)(hs:List R.Hst)(hH:HostsRow w B v hs)(hn:hs.length<=4000)(aD:∀h∈hs,R.SmallH h) :
  Calls Tryz.prog 35 #[v] w fun e w'=>e = .returned (.string (R.str (R.plain hs)))/\w.grownBy w' none:=by
 obtain⟨aT,al,av⟩:=hH
 obtain⟨ha,hc,rfl⟩:=zO al
 have ah:Y _:=al
 have an:Y _:=av
 have aK:Y _:=aD
 clear al av aD
 go_enter Tryz.func35,Tryz.ntmps35
 go_wp2
 go_loopw [3,4] (fun sv iv wr=>∃k:Nat,k<=hs.length/\iv = .int .i64 k/\sv = .string (R.str (((hs.take k).map R.hostLines).flatten))/\(R.str (((hs.take k).map R.hostLines).flatten)).size<=500000000000*k/\Y (w.grownBy wr none)) (fun _ iv _=>hs.length - (intOf iv).toNat)
 case atStart=>exact⟨0,zo _,rfl,rfl,by simp[R.str_size],ze _ _⟩
 case round=>
  obtain⟨k,hk,rfl,rfl,aE,HR⟩:=hrel
  by_cases ag:k<hs.length
  ·obtain⟨gm,aU,ay,_,_⟩:=World.ownsRow.form ah.o (by omega)
   simp only[qQ] at ay
   obtain⟨rfl,_,rfl⟩:=ay
   obtain⟨vR,aF,aM⟩:=zbD an.o k ag
   obtain⟨aS,am,aw⟩:=aM
   obtain⟨ra,rc,rfl⟩:=zO am
   have H0:Y (w.cell? ⟨gm,k*2,none⟩=some (.string (R.str hs[k].name))):=by
    show _=_
    rw[qR ah.o (k*2) (by omega),kn an.o k ag]
   have H1:Y (w.cell? ⟨gm,k*2+1,none⟩=some (.slice ra hs[k].rules.length rc)):=by
    show _=_
    rw[qR ah.o (k*2+1) (by omega),aF]
   have ab:Y _:=am
   have aH:Y _:=aw
   have HF:Y _:=jz R.hostLines hs k ag
   have ae:=aK.o hs[k] (List.getElem_mem ag)
   have ap:Y (R.hostLines hs[k]=[104,111,115,116,32]++R.q hs[k].name++[32,123,10]++(hs[k].rules.map R.lines).flatten++[125,10]):=rfl
   clear aF am aw
   generalize hs[k]=hh at*
   have aO:Y (hh.name.length<=100000):=by have:=ae.name;show _<=_;omega
   have zn:(R.str (R.q hh.name)).size<=3002:=by rw[R.str_size,R.q_len];have:=ae.name;omega
   have aW:=ae.rules.1
   have aL:Y _:=ae.rules.2
   clear ae
   have e0:=HR.o.cell H0.o (by simp)
   have e1:=HR.o.cell H1.o (by simp)
   generalize au:((hs.take k).map R.hostLines).flatten=acc at*
   have aR:Y _:=au
   clear au
   go_wp2_with fail
   refine(xx hh.name _ aO.o).mono ?_
   rintro e wX ⟨rfl,aG⟩
   rw[aG]
   clear aG wX
   go_wp2_with fail
   have E1:Y (R.str acc++⟨#[104,111,115,116,32]⟩++R.str (R.q hh.name)++⟨#[32,123,10]⟩=R.str (acc++[104,111,115,116,32]++R.q hh.name++[32,123,10])):=by
    show _=_;apply yz;rw[qM,qM,qM,R.str_toList,R.str_toList,R.str_toList]
   rw[E1.o]
   have aQ:(R.str (acc++[104,111,115,116,32]++R.q hh.name++[32,123,10])).size<=500000000000*k+4000:=by
    rw[R.str_size] at aE zn ⊢;simp only[zh,zoF,zmU];omega
   generalize aB:acc++[104,111,115,116,32]++R.q hh.name++[32,123,10]=pre at*
   have aq:Y _:=aB
   clear aB E1
   obtain⟨wo,aP⟩:∃x,x=wr:=⟨wr,rfl⟩
   subst aP
   go_loopw [3,5] (fun sv iv wz=>∃j:Nat,j<=hh.rules.length/\iv = .int .i64 j/\sv = .string (R.str (pre++((hh.rules.take j).map R.lines).flatten))/\(R.str (pre++((hh.rules.take j).map R.lines).flatten)).size<=500000000000*k+4000+110000000*j/\Y (w.grownBy wz none)) (fun _ iv _=>hh.rules.length - (intOf iv).toNat)
   case atStart=>exact⟨0,zo _,rfl,by simp,by simpa using aQ,HR⟩
   case round=>
    obtain⟨j,hj,rfl,rfl,af,aa⟩:=hrel
    have f1:wr.cell? ⟨gm,k*2+1,none⟩=some (.slice ra hh.rules.length rc):=aa.o.cell H1.o (by simp)
    by_cases ak:j<hh.rules.length
    ·obtain⟨gr,aV,az,_,_⟩:=World.ownsRow.form ab.o (by omega)
     simp only[qQ] at az
     obtain⟨rfl,_,rfl⟩:=az
     obtain⟨cs,aC,ad⟩:=uZ aH.o j ak
     have aJ:Y (RuleVal wr cs hh.rules[j]):=aC.keep aa.o (zi _ _)
     have ao:Y _:=jz R.lines hh.rules j ak
     have ar:Y _:=aL.o hh.rules[j] (List.getElem_mem ak)
     have aA:=R.lines_len _ ar.o
     generalize hh.rules[j]=rl at*
     obtain⟨vM,vT,vS,vD,rfl,hM,hT,hS,hD⟩:=aC
     obtain⟨m1,m2,rfl⟩:=zO hM
     obtain⟨t1,t2,rfl⟩:=zO hT
     obtain⟨x1,x2,rfl⟩:=zO hS
     obtain⟨d1,d2,rfl⟩:=zO hD
     clear hM hT hS hD
     have g0:wr.cell? ⟨gr,j*8,none⟩=some (.int .i64 rl.number):=by
      refine aa.o.cell (a:=⟨gr,j*8,none⟩) ?_ (by simp)
      rw[qR ab.o (j*8) (by omega)];exact ad 0 (by omega)
     have g1:wr.cell? ⟨gr,j*8+1,none⟩=some (.string (R.str rl.path)):=by
      refine aa.o.cell (a:=⟨gr,j*8+1,none⟩) ?_ (by simp)
      rw[qR ab.o (j*8+1) (by omega)];exact ad 1 (by omega)
     have g2:wr.cell? ⟨gr,j*8+2,none⟩=some (.slice m1 rl.ms.length m2):=by
      refine aa.o.cell (a:=⟨gr,j*8+2,none⟩) ?_ (by simp)
      rw[qR ab.o (j*8+2) (by omega)];exact ad 2 (by omega)
     have g3:wr.cell? ⟨gr,j*8+3,none⟩=some (.slice t1 rl.tg.length t2):=by
      refine aa.o.cell (a:=⟨gr,j*8+3,none⟩) ?_ (by simp)
      rw[qR ab.o (j*8+3) (by omega)];exact ad 3 (by omega)
     have g4:wr.cell? ⟨gr,j*8+4,none⟩=some (.bool rl.change):=by
      refine aa.o.cell (a:=⟨gr,j*8+4,none⟩) ?_ (by simp)
      rw[qR ab.o (j*8+4) (by omega)];exact ad 4 (by omega)
     have g5:wr.cell? ⟨gr,j*8+5,none⟩=some (.string (R.str rl.to)):=by
      refine aa.o.cell (a:=⟨gr,j*8+5,none⟩) ?_ (by simp)
      rw[qR ab.o (j*8+5) (by omega)];exact ad 5 (by omega)
     have g6:wr.cell? ⟨gr,j*8+6,none⟩=some (.slice x1 rl.sets.length x2):=by
      refine aa.o.cell (a:=⟨gr,j*8+6,none⟩) ?_ (by simp)
      rw[qR ab.o (j*8+6) (by omega)];exact ad 6 (by omega)
     have g7:wr.cell? ⟨gr,j*8+7,none⟩=some (.slice d1 rl.drops.length d2):=by
      refine aa.o.cell (a:=⟨gr,j*8+7,none⟩) ?_ (by simp)
      rw[qR ab.o (j*8+7) (by omega)];exact ad 7 (by omega)
     clear ad
     have ai:Y ((R.str (pre++((hh.rules.take (j+1)).map R.lines).flatten)).size<=500000000000*k+4000+110000000*(j+1)):=by
      show _<=_
      rw[R.str_size] at af
      rw[R.str_size,ao.o,<-x4,zh];omega
     have aj:Y (Value.string (R.str (pre++((hh.rules.take j).map R.lines).flatten)++R.str (R.lines rl)) = .string (R.str (pre++((hh.rules.take (j+1)).map R.lines).flatten))):=by
      show _=_
      rw[R.str_append,ao.o,x4]
     have zl:(R.str (R.lines rl)).size<=110000000:=by rw[R.str_size];exact aA
     clear aA
     generalize pre++((hh.rules.take j).map R.lines).flatten=ac2 at*
     go_wp2_with fail
     refine(zmV _ rl aJ.o ar.o).mono ?_
     rintro e wL ⟨rfl,ax⟩
     have aI:Y _:=zD aa.o ax
     clear ax
     go_wp2
     exact⟨⟨j+1,by omega,by go_num,aj.o,ai.o,aI⟩,by simp[intOf];omega⟩
    ·have aN:j=hh.rules.length:=by omega
     subst aN
     rw[tW (zw _)] at af ⊢
     have ai:Y ((R.str (((hs.take (k+1)).map R.hostLines).flatten)).size<=500000000000*(k+1)):=by
      show _<=_
      rw[R.str_size] at af aE zn
      rw[R.str_size,HF.o,ap.o]
      rw[<-aq.o] at af
      simp only[zh,zoF,zmU] at af ⊢
      omega
     have aj:Y (Value.string (R.str (pre++(hh.rules.map R.lines).flatten)++⟨#[125,10]⟩) = .string (R.str (((hs.take (k+1)).map R.hostLines).flatten))):=by
      show _=_
      rw[HF.o,ap.o,<-aq.o]
      congr 1
      apply yz;rw[qM,R.str_toList,R.str_toList];simp
     go_wp2
     exact⟨⟨k+1,by omega,by go_num,aj.o,ai.o,aa⟩,by simp[intOf];omega⟩
  ·go_wp2
   go_ret
   rw[tW (by omega)]
   exact⟨rfl,HR.o⟩
end Go.Proofs.YtfocdefchbnkpaaGreatDoor
