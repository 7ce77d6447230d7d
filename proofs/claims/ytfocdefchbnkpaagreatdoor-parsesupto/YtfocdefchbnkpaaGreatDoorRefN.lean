import Derived.Test.YtfocdefchbnkpaaGreatDoorRefJ
set_option maxRecDepth 100000
set_option maxHeartbeats 20000000
open Go renaming World->Ag,Value->Aj
open Go.Calls renaming quiet_of_same->Hj
open Go.Ending renaming returned->Af
open Go.IntKind renaming i64->Ai
open Go.Proofs.YtfocdefchbnkpaaGreatDoor.R renaming str->Aa,str_size->Bz,str_toList->Be
open Go.Proofs.YtfocdefchbnkpaaGreatDoor.R.Mt renaming cells->Qx
open Go.Value renaming string->I,slice->X,int->O,bool->Av
open Go.Value.slice renaming injEq->Au
open Go.World.ownsRow renaming cellAt->Ap,form->Bm
open List renaming length->Z
open Option renaming none->S,some->V
open _root_ renaming List->A,UInt8->Ab,Nat->Ad,ByteArray->As
namespace Go.Proofs.YtfocdefchbnkpaaGreatDoor
open Go.RowKit Tryz
namespace R
def q (l:A Ab):A Ab:=34::l++[34]
def decI (n:Int):A Ab:=dec n.toNat
def lnHead (r:Rl):A Ab:=[32,32,114,117,108,101,32]++decI r.number++[32,123,10,32,32,32,32,112,97,116,104,32]++q r.path++[59,10]
def lnMt (m:Mt):A Ab:=[32,32,32,32,104,101,97,100,101,114,32]++q m.name++(if m.ask then [32,61,32]++q m.val else [])++[59,10]
def lnTg (t:A Ab×Int):A Ab:=q t.1++[32]++decI t.2
def lnTgs:A (A Ab×Int)->A Ab
 |[]=>[]
 |t::l=>lnTg t++(l.map fun u=>[44,32]++lnTg u).flatten
theorem lnTgs_snoc (l:A (A Ab×Int))(k:Ad)(h:k<Z l):lnTgs (l.take (k+1))=lnTgs (l.take k)++((if k=0 then [] else [44,32])++lnTg l[k]):=by
 cases l with
 |nil=>simp at h
 |cons a l=>
  match k with
  |0=>simp[lnTgs]
  |k+1=>
   have b:k<Z l:=by simpa using h
   rw[Fk,Fk,lnTgs,lnTgs,Co b,Ef,Eg];simp
def lnTo (r:Rl):A Ab:=if r.change then [32,32,32,32,114,101,112,108,97,99,101,32]++q r.to++[59,10] else []
def lnSet (t:A Ab×A Ab):A Ab:=[32,32,32,32,115,101,116,32]++q t.1++[32,61,32]++q t.2++[59,10]
def lnDrop (l:A Ab):A Ab:=[32,32,32,32,100,114,111,112,32]++q l++[59,10]
def lines (r:Rl):A Ab:=
 lnHead r++(r.ms.map lnMt).flatten++[32,32,32,32,116,111,32]++lnTgs r.tg++[59,10]++lnTo r++(r.sets.map lnSet).flatten++(r.drops.map lnDrop).flatten++[32,32,125,10]
structure Small (r:Rl):Prop where
 num:0<=r.number/\r.number<=99999
 path:Z r.path<=3000
 ms:Z r.ms<=4000/\∀m∈r.ms,Z m.name<=3000/\(Z m.val)<=3000
 tg:Z r.tg<=4000/\∀t∈r.tg,Z t.1<=3000/\0<=t.2/\t.2<=99999
 to:Z r.to<=3000
 sets:Z r.sets<=4000/\∀t∈r.sets,Z t.1<=3000/\(Z t.2)<=3000
 drops:Z r.drops<=4000/\∀t∈r.drops,Z t<=3000
theorem q_len (l:A Ab):Z (q l)=Z l+2:=by simp[q]
theorem decI_len (n:Int)(h:0<=n/\n<=99999):Z (decI n)<=5:=dec_len n.toNat 4 (by omega)
theorem str_append (a b:A Ab):str a++str b=str (a++b):=by grind[yt,qC,str_toList,str]
end R
theorem jP (w:Ag)(n:Ad):w.grownBy (w.drewN n) S:=by
 induction n with
 |zero=>exact zP _ _
 |succ n ih=>exact zD ih (zV _)
variable {α:Type}
theorem zhA (f:α->A Aj)(n:Ad)(b:∀a,Z (f a)=n)(l:A α)(k j:Ad)(c:k<Z l)(d:j<n):(l.map f).flatten[k*n+j]?=(f l[k])[j]?:=by
 induction l generalizing k with
 |nil=>simp at c
 |cons a l ih=>
  rw[Er,Ci]
  match k with
  |0=>rw[Cx (by rw[b];omega)];simp
  |k+1=>
   rw[Cl (by rw[b,Sr];omega),b,show(k+1)*n+j-n=k*n+j by rw[Sr];omega,ih k (by simpa using c)];rfl
variable {w:Ag}{B:Ad}
theorem qY {w':Ag}(f:α->A Aj)(n:Ad)(i:∀a,Z (f a)=n){e:TypeId}{g c:Ad}{l:A α}(h:w.ownsRow B e n (X (V ⟨g,0,S⟩) (Z l) c) (Z l) (l.map f).flatten)(m:w.grownBy w' S)(k j:Ad)(p:k<Z l)(o:j<n){u:Aj}(q:(f l[k])[j]?=V u):w'.cell? ⟨g,k*n+j,S⟩=V u:=by
 refine m.cell (a:=⟨g,k*n+j,S⟩) ?_ (by simp);have b:k*n+j<Z l*n:=by
  have d:(k+1)*n<=Z l*n:=Nat.mul_le_mul_right n (by omega);rw[Sr] at d;omega
 rw[Ap h (k*n+j) b,zhA f n i l k j p o];exact q
theorem strFlat (l:A (A Ab)):(l.map fun s=>[I (Aa s)]).flatten=zY l:=by
 unfold zY
 induction l <;> grind[zY,List.flatten_cons,Aa]
theorem strRow1 {e:TypeId}{v:Aj}{l:A (A Ab)}(h:w.ownsRow B e 1 v (Z l) (zY l)):w.ownsRow B e 1 v (Z l) (l.map fun s=>[I (Aa s)]).flatten:=by
 rw[strFlat];exact h
theorem v7 (f:α->A Ab)(l:A α)(k:Ad)(a:k<Z l):((l.take (k+1)).map f).flatten=((l.take k).map f).flatten++f l[k]:=by
 rw[Co a,Ef,Eg];simp
theorem xh (l:A Ab)(w:Ag)(a:Z l<=100000):Calls prog 54 #[I (Aa l)] w fun e w'=>e=Af (I (Aa (R.q l)))/\w'=w:=by
 have:=zfZ (Aa l) w (by rw[Bz];exact a);rw[Be] at this;exact this
theorem ko (n:Int)(w:Ag)(h:0<=n/\n<=99999):Calls prog 91 #[O Ai n] w fun e w'=>e=Af (I (Aa (R.decI n)))/\w'=w:=by
 have:=oW n.toNat w (by omega);rw[Int.toNat_of_nonneg h.1] at this;exact this
theorem zfW (cs:A Aj)(r:R.Rl)(hr:RuleVal w cs r)(hs:R.Small r) :
  Calls prog 55 #[.agg cs.toArray] w fun e w'=>e=Af (I (Aa (R.lines r)))/\w.grownBy w' S:=by
 obtain⟨vM,vT,vS,vD,rfl,hM,hT,hS,hD⟩:=hr;obtain⟨m1,m2,rfl⟩:=zL hM;obtain⟨t1,t2,rfl⟩:=zL hT;obtain⟨x1,x2,rfl⟩:=zL hS;obtain⟨d1,d2,rfl⟩:=zL hD;have HM:=J hM;have HT:=J hT;have HS:=J hS;have HD:=J hD;have f:=J hs;have aC:Y (Z r.path<=100000):=by have:=hs.path;show _<=_;omega
 have au:=hs.num;have az:(Aa (R.q r.path)).size<=3002:=by rw[Bz,R.q_len];have:=hs.path;omega
 have ay:(Aa (R.decI r.number)).size<=5:=by rw[Bz];exact R.decI_len _ hs.num
 have aA:=J au;clear hM hT hS hD hs au;go_in;go_wp2_with fail;go_quiet ((first | (go_at_call 91;exact Hj (ko _ _ aA.o)) | (go_at_call 54;exact Hj (xh _ _ aC.o))));have C:Y (w.grownBy ((w.alloc (.cells #[O Ai r.number,I (Aa r.path),X m1 (Z r.ms) m2,X t1 (Z r.tg) t2,Av r.change,I (Aa r.to),X x1 (Z r.sets) x2,X d1 (Z r.drops) d2] 126)).drewN nq) S):=zD (World.grownBy_alloc _ _ _) (jP _ _);have H:Y (((w.alloc (.cells #[O Ai r.number,I (Aa r.path),X m1 (Z r.ms) m2,X t1 (Z r.tg) t2,Av r.change,I (Aa r.to),X x1 (Z r.sets) x2,X d1 (Z r.drops) d2] 126)).drewN nq).heap[w.heap.size]?=V (.cells #[O Ai r.number,I (Aa r.path),X m1 (Z r.ms) m2,X t1 (Z r.tg) t2,Av r.change,I (Aa r.to),X x1 (Z r.sets) x2,X d1 (Z r.drops) d2] 126)):=zE (heap_alloc_new _ _) (jP _ _) (by simp);have E1:Y ((⟨#[32,32,114,117,108,101,32]⟩:As)++Aa (R.decI r.number)++⟨#[32,123,10,32,32,32,32,112,97,116,104,32]⟩++Aa (R.q r.path)++⟨#[59,10]⟩=Aa (R.lnHead r)):=by
  show _=_
  apply yt;rw[qC,qC,qC,qC,Be,Be,Be];rfl
 go_wp2_with fail;rw[E1.o];generalize(w.alloc (.cells #[O Ai r.number,I (Aa r.path),X m1 (Z r.ms) m2,X t1 (Z r.tg) t2,Av r.change,I (Aa r.to),X x1 (Z r.sets) x2,X d1 (Z r.drops) d2] 126)).drewN nq=wq at*;have hz:(Aa (R.lnHead r)).size<=10000:=by
  rw[Bz];rw[Bz] at az ay;unfold R.lnHead;simp only[Ah,Bb,Bu];omega
 generalize av:R.lnHead r=pre at*;have aq:=J (av);clear av az ay
 go_loopw [3,4] (fun sv iv wr=>∃k:Ad,k<=Z r.ms/\iv=O Ai k/\sv=I (Aa (pre++((r.ms.take k).map R.lnMt).flatten))/\(Aa (pre++((r.ms.take k).map R.lnMt).flatten)).size<=10000+6100*k/\Y (wq.grownBy wr S)) (fun _ iv _=>Z r.ms - (intOf iv).toNat)
 ·exact⟨0,Ax _,rfl,by simp,by simpa using hz,zP _ _⟩
 ·
  obtain⟨k,hk,rfl,rfl,d,l⟩:=hrel;have a:=zE H.o l.o (by simp);have ab:=cbi 2 a;have ad:=cbi 3 a;have ae:=cbi 4 a;have af:=cbi 5 a;have ag:=cbi 6 a;have ah:=cbi 7 a;clear a
  by_cases b:k<Z r.ms
  ·obtain⟨F,ai,g,_,_⟩:=Bm HM.o (by omega)
   simp only[Au] at g;obtain⟨rfl,_,rfl⟩:=g;have z:=zD C.o l.o;have e0:wr.cell? ⟨F,k*3,S⟩=V (I (Aa r.ms[k].name)):=qY (Qx) 3 (fun _=>rfl) HM.o z k 0 b (by omega) rfl;have e1:wr.cell? ⟨F,k*3+1,S⟩=V (I (Aa r.ms[k].val)):=qY (Qx) 3 (fun _=>rfl) HM.o z k 1 b (by omega) rfl;have e2:wr.cell? ⟨F,k*3+2,S⟩=V (Av r.ms[k].ask):=qY (Qx) 3 (fun _=>rfl) HM.o z k 2 b (by omega) rfl;clear z;have B:Y _:=v7 R.lnMt r.ms k b;have v:=f.o.ms.1;have o:=f.o.ms.2 r.ms[k] (Cr b);have aa:Y (R.lnMt r.ms[k]=[32,32,32,32,104,101,97,100,101,114,32]++R.q r.ms[k].name++(if r.ms[k].ask then [32,61,32]++R.q r.ms[k].val else [])++[59,10]):=rfl;generalize r.ms[k]=m at*;have zn:(Aa (R.q m.name)).size<=3002:=by rw[Bz,R.q_len];omega
   have zv:(Aa (R.q m.val)).size<=3002:=by rw[Bz,R.q_len];omega
   have i:Y (Z m.name<=100000):=by show _<=_;omega
   have E:Y (Z m.val<=100000):=by show _<=_;omega
   have u:Z (R.lnMt m)<=6100:=by
    rw[aa.o];simp only[Ah,R.q_len,Bb,Bu]
    split
    ·simp only[Ah,R.q_len,Bb,Bu];omega
    ·simp only[Bu];omega
   clear o;have n:Y ((Aa (pre++((r.ms.take (k+1)).map R.lnMt).flatten)).size<=10000+6100*(k+1)):=by
    show _<=_;rw[Bz] at d;rw[Bz,B.o,<-Bl,Ah];omega
   have c:Y (∀x:As,x.data.toList=(pre++((r.ms.take k).map R.lnMt).flatten)++(R.lnMt m)->I x=I (Aa (pre++((r.ms.take (k+1)).map R.lnMt).flatten))):=by
    intro x N;have:x=Aa (pre++((r.ms.take (k+1)).map R.lnMt).flatten):=by
     apply yt;rw[Be,B.o,N,Bl]
    rw[<-this]
   clear u;generalize pre++((r.ms.take k).map R.lnMt).flatten=acc at*
   cases hask:m.ask
   ·rw[hask] at aa
    go_wp2_with fail;refine(xh m.name _ i.o).mono ?_;rintro e wX ⟨rfl,j⟩;rw[j];clear j wX;go_wp2;refine⟨⟨k+1,by omega,by go_num,c.o _ ?_,n.o,l.o⟩,by simp[intOf];omega⟩;rw[qC,qC,qC,Be,Be,aa.o];simp
   ·rw[hask] at aa
    go_wp2_with fail;refine(xh m.name _ i.o).mono ?_;rintro e wX ⟨rfl,j⟩;rw[j];clear j wX;go_wp2_with fail;refine(xh m.val _ E.o).mono ?_;rintro e wX ⟨rfl,j⟩;rw[j];clear j wX;go_wp2;refine⟨⟨k+1,by omega,by go_num,c.o _ ?_,n.o,l.o⟩,by simp[intOf];omega⟩;rw[qC,qC,qC,qC,qC,Be,Be,Be,aa.o];simp
  ·have p:k=Z r.ms:=by omega
   subst p;rw[Cc (Aq _)] at d;rw[Cc (Aq _)];have v:=f.o.ms.1;have E2:Y (Aa (pre++(r.ms.map R.lnMt).flatten)++⟨#[32,32,32,32,116,111,32]⟩=Aa (pre++(r.ms.map R.lnMt).flatten++[32,32,32,32,116,111,32])):=by
    show _=_;apply yt;rw[qC,Be,Be]
   have ax:(Aa (pre++(r.ms.map R.lnMt).flatten++[32,32,32,32,116,111,32])).size<=25000000:=by
    rw[Bz] at d ⊢;rw[Ah];simp only[Bb,Bu];omega
   have ar:Y (R.lnHead r++(r.ms.map R.lnMt).flatten++[32,32,32,32,116,111,32]=pre++(r.ms.map R.lnMt).flatten++[32,32,32,32,116,111,32]):=by rw[aq.o];rfl
   go_wp2_with fail;rw[E2.o];generalize pre++(r.ms.map R.lnMt).flatten++[32,32,32,32,116,111,32]=pre2 at*;clear hz d
   go_loopw [3,5] (fun sv iv wr=>∃k:Ad,k<=Z r.tg/\iv=O Ai k/\sv=I (Aa (pre2++R.lnTgs (r.tg.take k)))/\(Aa (pre2++R.lnTgs (r.tg.take k))).size<=25000000+6100*k/\Y (wq.grownBy wr S)) (fun _ iv _=>Z r.tg - (intOf iv).toNat)
   ·exact⟨0,Ax _,rfl,by simp[R.lnTgs],by simpa[R.lnTgs] using ax,l.o⟩
   ·
    obtain⟨k,hk,rfl,rfl,d,l⟩:=hrel;have a:=zE H.o l.o (by simp);have ab:=cbi 2 a;have ad:=cbi 3 a;have ae:=cbi 4 a;have af:=cbi 5 a;have ag:=cbi 6 a;have ah:=cbi 7 a;clear a
    by_cases b:k<Z r.tg
    ·obtain⟨F,ai,g,_,_⟩:=Bm HT.o (by omega)
     simp only[Au] at g;obtain⟨rfl,_,rfl⟩:=g;have z:=zD C.o l.o;have e0:wr.cell? ⟨F,k*2,S⟩=V (I (Aa r.tg[k].1)):=qY (fun t:A Ab×Int=>[I (Aa t.1),O Ai t.2]) 2 (fun _=>rfl) HT.o z k 0 b (by omega) rfl;have e1:wr.cell? ⟨F,k*2+1,S⟩=V (O Ai r.tg[k].2):=qY (fun t:A Ab×Int=>[I (Aa t.1),O Ai t.2]) 2 (fun _=>rfl) HT.o z k 1 b (by omega) rfl;clear z;have B:Y _:=R.lnTgs_snoc r.tg k b;have v:=f.o.tg.1;have o:=f.o.tg.2 r.tg[k] (Cr b);generalize r.tg[k]=m at*;have zn:(Aa (R.q m.1)).size<=3002:=by rw[Bz,R.q_len];omega
     have zv:(Aa (R.decI m.2)).size<=5:=by rw[Bz];exact R.decI_len _ o.2
     have i:Y (Z m.1<=100000):=by show _<=_;omega
     have E:=J (o.2);have u:Z ((if k=0 then [] else [44,32])++R.lnTg m)<=6100:=by
      rw[Bz] at zn zv;unfold R.lnTg;split <;> simp only[Ah,Bb,Bu] <;> omega
     clear o;have n:Y ((Aa (pre2++R.lnTgs (r.tg.take (k+1)))).size<=25000000+6100*(k+1)):=by
      show _<=_;rw[Bz] at d;rw[Bz,B.o,<-Bl,Ah];omega
     have c:Y (∀x:As,x.data.toList=(pre2++R.lnTgs (r.tg.take k))++((if k=0 then [] else [44,32])++R.lnTg m)->I x=I (Aa (pre2++R.lnTgs (r.tg.take (k+1))))):=by
      intro x N;have:x=Aa (pre2++R.lnTgs (r.tg.take (k+1))):=by
       apply yt;rw[Be,B.o,N,Bl]
      rw[<-this]
     clear u;generalize pre2++R.lnTgs (r.tg.take k)=acc at*
     by_cases al:k=0
     ·rw[Az al] at c
      have ao:(k:Int)<Z r.tg:=by omega
      have aB:(k:Int)<=0:=by omega
      clear al;go_wp2_with fail;go_quiet ((first | (go_at_call 91;exact Hj (ko _ _ E.o)) | (go_at_call 54;exact Hj (xh _ _ i.o))));go_wp2;refine⟨⟨k+1,by omega,by go_num,c.o _ ?_,n.o,zD l.o (jP _ _)⟩,by simp[intOf];omega⟩;rw[qC,qC,qC,Be,Be,Be,R.lnTg];simp
     ·rw[Aw al] at c
      have aB:(0:Int)<k:=by omega
      have ao:(k:Int)<Z r.tg:=by omega
      clear al;go_wp2_with fail;go_quiet ((first | (go_at_call 91;exact Hj (ko _ _ E.o)) | (go_at_call 54;exact Hj (xh _ _ i.o))));go_wp2;refine⟨⟨k+1,by omega,by go_num,c.o _ ?_,n.o,zD l.o (jP _ _)⟩,by simp[intOf];omega⟩;rw[qC,qC,qC,qC,Be,Be,Be,R.lnTg];simp
    ·have p:k=Z r.tg:=by omega
     subst p;rw[Cc (Aq _)] at d;rw[Cc (Aq _)];have v:=f.o.tg.1;have aD:=f.o.to;have aF:(Aa (R.q r.to)).size<=3002:=by rw[Bz,R.q_len];omega
     have i:Y (Z r.to<=100000):=by show _<=_;omega
     have ak:Y (R.lnTo r=if r.change then [32,32,32,32,114,101,112,108,97,99,101,32]++R.q r.to++[59,10] else []):=rfl;have aE:Z (R.lnTo r)<=4000:=by
      rw[Bz,R.q_len] at aF;unfold R.lnTo
      split
      ·simp only[Ah,R.q_len,Bb,Bu];omega
      ·simp
     have am:(Aa (pre2++R.lnTgs r.tg++[59,10]++R.lnTo r)).size<=50000000:=by
      rw[Bz] at d ⊢;rw[Ah,Ah];simp only[Bb,Bu];omega
     have E3:Y (∀x:As,x.data.toList=pre2++R.lnTgs r.tg++[59,10]++R.lnTo r->I x=I (Aa (pre2++R.lnTgs r.tg++[59,10]++R.lnTo r))):=by
      intro x N;rw[<-N,R.str_of]
     have aG:(Aa (pre2++R.lnTgs r.tg)).size<=49500000:=by omega
     generalize hA:pre2++R.lnTgs r.tg=accA at*;clear d ax aD aE;generalize aw:accA++[59,10]++R.lnTo r=pre3 at*;have aj:=J (aw);clear aw
     cases hch:r.change
     ·rw[hch] at ak
      go_wp2_with fail;rw[E3.o (Aa accA++⟨#[59,10]⟩) (by rw[qC,Be,<-aj.o,ak.o];simp)]
      go_loopw [3,6] (fun sv iv wr=>∃k:Ad,k<=Z r.sets/\iv=O Ai k/\sv=I (Aa (pre3++((r.sets.take k).map R.lnSet).flatten))/\(Aa (pre3++((r.sets.take k).map R.lnSet).flatten)).size<=50000000+6100*k/\Y (wq.grownBy wr S)) (fun _ iv _=>Z r.sets - (intOf iv).toNat)
      ·exact⟨0,Ax _,rfl,by simp,by simpa using am,l.o⟩
      ·
       obtain⟨k,hk,rfl,rfl,d,l⟩:=hrel;have a:=zE H.o l.o (by simp);have ab:=cbi 2 a;have ad:=cbi 3 a;have ae:=cbi 4 a;have af:=cbi 5 a;have ag:=cbi 6 a;have ah:=cbi 7 a;clear a
       by_cases b:k<Z r.sets
       ·obtain⟨F,ai,g,_,_⟩:=Bm HS.o (by omega)
        simp only[Au] at g;obtain⟨rfl,_,rfl⟩:=g;have z:=zD C.o l.o;have e0:wr.cell? ⟨F,k*2,S⟩=V (I (Aa r.sets[k].1)):=qY (fun t:A Ab×A Ab=>[I (Aa t.1),I (Aa t.2)]) 2 (fun _=>rfl) HS.o z k 0 b (by omega) rfl;have e1:wr.cell? ⟨F,k*2+1,S⟩=V (I (Aa r.sets[k].2)):=qY (fun t:A Ab×A Ab=>[I (Aa t.1),I (Aa t.2)]) 2 (fun _=>rfl) HS.o z k 1 b (by omega) rfl;clear z;have B:Y _:=v7 R.lnSet r.sets k b;have v:=f.o.sets.1;have o:=f.o.sets.2 r.sets[k] (Cr b);generalize r.sets[k]=m at*;have zn:(Aa (R.q m.1)).size<=3002:=by rw[Bz,R.q_len];omega
        have zv:(Aa (R.q m.2)).size<=3002:=by rw[Bz,R.q_len];omega
        have i:Y (Z m.1<=100000):=by show _<=_;omega
        have E:Y (Z m.2<=100000):=by show _<=_;omega
        have ao:(k:Int)<Z r.sets:=by omega
        have u:Z (R.lnSet m)<=6100:=by
         unfold R.lnSet;simp only[Ah,R.q_len,Bb,Bu];omega
        clear o;have n:Y ((Aa (pre3++((r.sets.take (k+1)).map R.lnSet).flatten)).size<=50000000+6100*(k+1)):=by
         show _<=_;rw[Bz] at d;rw[Bz,B.o,<-Bl,Ah];omega
        have c:Y (∀x:As,x.data.toList=(pre3++((r.sets.take k).map R.lnSet).flatten)++(R.lnSet m)->I x=I (Aa (pre3++((r.sets.take (k+1)).map R.lnSet).flatten))):=by
         intro x N;have:x=Aa (pre3++((r.sets.take (k+1)).map R.lnSet).flatten):=by
          apply yt;rw[Be,B.o,N,Bl]
         rw[<-this]
        clear u;generalize pre3++((r.sets.take k).map R.lnSet).flatten=acc at*;go_wp2_with fail;go_quiet ((first | (go_at_call_of 54 (I (Aa m.1));exact Hj (xh _ _ i.o)) | (go_at_call 54;exact Hj (xh _ _ i.o)) | (go_at_call 54;exact Hj (xh _ _ E.o))));go_wp2;refine⟨⟨k+1,by omega,by go_num,c.o _ ?_,n.o,zD l.o (jP _ _)⟩,by simp[intOf];omega⟩;rw[qC,qC,qC,qC,qC,Be,Be,Be,R.lnSet];simp
       ·have p:k=Z r.sets:=by omega
        subst p;rw[Cc (Aq _)] at d;rw[Cc (Aq _)];have v:=f.o.sets.1;have ap:(Aa (pre3++(r.sets.map R.lnSet).flatten)).size<=80000000:=by omega
        generalize y:pre3++(r.sets.map R.lnSet).flatten=pre4 at*;have an:=J (y);clear y d am;go_wp2_with fail
        go_loopw [3,7] (fun sv iv wr=>∃k:Ad,k<=Z r.drops/\iv=O Ai k/\sv=I (Aa (pre4++((r.drops.take k).map R.lnDrop).flatten))/\(Aa (pre4++((r.drops.take k).map R.lnDrop).flatten)).size<=80000000+6100*k/\Y (wq.grownBy wr S)) (fun _ iv _=>Z r.drops - (intOf iv).toNat)
        ·exact⟨0,Ax _,rfl,by simp,by simpa using ap,l.o⟩
        ·
         obtain⟨k,hk,rfl,rfl,d,l⟩:=hrel;have a:=zE H.o l.o (by simp);have ab:=cbi 2 a;have ad:=cbi 3 a;have ae:=cbi 4 a;have af:=cbi 5 a;have ag:=cbi 6 a;have ah:=cbi 7 a;clear a
         by_cases b:k<Z r.drops
         ·obtain⟨F,ai,g,_,_⟩:=Bm HD.o (by omega)
          simp only[Au] at g;obtain⟨rfl,_,rfl⟩:=g;have z:=zD C.o l.o;have e0:wr.cell? ⟨F,k,S⟩=V (I (Aa r.drops[k])):=by have h:=qY (fun s:A Ab=>[I (Aa s)]) 1 (fun _=>rfl) (strRow1 HD.o) z k 0 b (by omega) rfl;simpa using h
          clear z;have B:Y _:=v7 R.lnDrop r.drops k b;have v:=f.o.drops.1;have o:=f.o.drops.2 r.drops[k] (Cr b);generalize r.drops[k]=m at*;have zn:(Aa (R.q m)).size<=3002:=by rw[Bz,R.q_len];omega
          have i:Y (Z m<=100000):=by show _<=_;omega
          have u:Z (R.lnDrop m)<=6100:=by
           unfold R.lnDrop;simp only[Ah,R.q_len,Bb,Bu];omega
          clear o;have n:Y ((Aa (pre4++((r.drops.take (k+1)).map R.lnDrop).flatten)).size<=80000000+6100*(k+1)):=by
           show _<=_;rw[Bz] at d;rw[Bz,B.o,<-Bl,Ah];omega
          have c:Y (∀x:As,x.data.toList=(pre4++((r.drops.take k).map R.lnDrop).flatten)++(R.lnDrop m)->I x=I (Aa (pre4++((r.drops.take (k+1)).map R.lnDrop).flatten))):=by
           intro x N;have:x=Aa (pre4++((r.drops.take (k+1)).map R.lnDrop).flatten):=by
            apply yt;rw[Be,B.o,N,Bl]
           rw[<-this]
          clear u;generalize pre4++((r.drops.take k).map R.lnDrop).flatten=acc at*;go_wp2_with fail;refine(xh m _ i.o).mono ?_;rintro e wX ⟨rfl,j⟩;rw[j];clear j wX;go_wp2;refine⟨⟨k+1,by omega,by go_num,c.o _ ?_,n.o,l.o⟩,by simp[intOf];omega⟩;rw[qC,qC,qC,Be,Be,R.lnDrop];simp
         ·have p:k=Z r.drops:=by omega
          subst p;rw[Cc (Aq _)] at d;rw[Cc (Aq _)];have v:=f.o.drops.1;have Q:Y (R.lines r=pre4++(r.drops.map R.lnDrop).flatten++[32,32,125,10]):=by
           show R.lines r=_;rw[<-an.o,<-aj.o,<-hA,<-ar.o];rfl
          go_wp2;go_ret;refine⟨tI ?_,zD C.o l.o⟩
          apply yt
          rw[Q.o,qC,Be,Be]
     ·rw[hch] at ak
      go_wp2_with fail;refine(xh r.to _ i.o).mono ?_;rintro e wX ⟨rfl,j⟩;rw[j];clear j wX;go_wp2_with fail;rw[E3.o (Aa accA++⟨#[59,10]⟩++⟨#[32,32,32,32,114,101,112,108,97,99,101,32]⟩++Aa (R.q r.to)++⟨#[59,10]⟩) (by rw[qC,qC,qC,qC,Be,Be,<-aj.o,ak.o];simp)]
      go_loopw [3,6] (fun sv iv wr=>∃k:Ad,k<=Z r.sets/\iv=O Ai k/\sv=I (Aa (pre3++((r.sets.take k).map R.lnSet).flatten))/\(Aa (pre3++((r.sets.take k).map R.lnSet).flatten)).size<=50000000+6100*k/\Y (wq.grownBy wr S)) (fun _ iv _=>Z r.sets - (intOf iv).toNat)
      ·exact⟨0,Ax _,rfl,by simp,by simpa using am,l.o⟩
      ·
       obtain⟨k,hk,rfl,rfl,d,l⟩:=hrel;have a:=zE H.o l.o (by simp);have ab:=cbi 2 a;have ad:=cbi 3 a;have ae:=cbi 4 a;have af:=cbi 5 a;have ag:=cbi 6 a;have ah:=cbi 7 a;clear a
       by_cases b:k<Z r.sets
       ·obtain⟨F,ai,g,_,_⟩:=Bm HS.o (by omega)
        simp only[Au] at g;obtain⟨rfl,_,rfl⟩:=g;have z:=zD C.o l.o;have e0:wr.cell? ⟨F,k*2,S⟩=V (I (Aa r.sets[k].1)):=qY (fun t:A Ab×A Ab=>[I (Aa t.1),I (Aa t.2)]) 2 (fun _=>rfl) HS.o z k 0 b (by omega) rfl;have e1:wr.cell? ⟨F,k*2+1,S⟩=V (I (Aa r.sets[k].2)):=qY (fun t:A Ab×A Ab=>[I (Aa t.1),I (Aa t.2)]) 2 (fun _=>rfl) HS.o z k 1 b (by omega) rfl;clear z;have B:Y _:=v7 R.lnSet r.sets k b;have v:=f.o.sets.1;have o:=f.o.sets.2 r.sets[k] (Cr b);generalize r.sets[k]=m at*;have zn:(Aa (R.q m.1)).size<=3002:=by rw[Bz,R.q_len];omega
        have zv:(Aa (R.q m.2)).size<=3002:=by rw[Bz,R.q_len];omega
        have i:Y (Z m.1<=100000):=by show _<=_;omega
        have E:Y (Z m.2<=100000):=by show _<=_;omega
        have ao:(k:Int)<Z r.sets:=by omega
        have u:Z (R.lnSet m)<=6100:=by
         unfold R.lnSet;simp only[Ah,R.q_len,Bb,Bu];omega
        clear o;have n:Y ((Aa (pre3++((r.sets.take (k+1)).map R.lnSet).flatten)).size<=50000000+6100*(k+1)):=by
         show _<=_;rw[Bz] at d;rw[Bz,B.o,<-Bl,Ah];omega
        have c:Y (∀x:As,x.data.toList=(pre3++((r.sets.take k).map R.lnSet).flatten)++(R.lnSet m)->I x=I (Aa (pre3++((r.sets.take (k+1)).map R.lnSet).flatten))):=by
         intro x N;have:x=Aa (pre3++((r.sets.take (k+1)).map R.lnSet).flatten):=by
          apply yt;rw[Be,B.o,N,Bl]
         rw[<-this]
        clear u;generalize pre3++((r.sets.take k).map R.lnSet).flatten=acc at*;go_wp2_with fail;go_quiet ((first | (go_at_call_of 54 (I (Aa m.1));exact Hj (xh _ _ i.o)) | (go_at_call 54;exact Hj (xh _ _ i.o)) | (go_at_call 54;exact Hj (xh _ _ E.o))));go_wp2;refine⟨⟨k+1,by omega,by go_num,c.o _ ?_,n.o,zD l.o (jP _ _)⟩,by simp[intOf];omega⟩;rw[qC,qC,qC,qC,qC,Be,Be,Be,R.lnSet];simp
       ·have p:k=Z r.sets:=by omega
        subst p;rw[Cc (Aq _)] at d;rw[Cc (Aq _)];have v:=f.o.sets.1;have ap:(Aa (pre3++(r.sets.map R.lnSet).flatten)).size<=80000000:=by omega
        generalize y:pre3++(r.sets.map R.lnSet).flatten=pre4 at*;have an:=J (y);clear y d am;go_wp2_with fail
        go_loopw [3,7] (fun sv iv wr=>∃k:Ad,k<=Z r.drops/\iv=O Ai k/\sv=I (Aa (pre4++((r.drops.take k).map R.lnDrop).flatten))/\(Aa (pre4++((r.drops.take k).map R.lnDrop).flatten)).size<=80000000+6100*k/\Y (wq.grownBy wr S)) (fun _ iv _=>Z r.drops - (intOf iv).toNat)
        ·exact⟨0,Ax _,rfl,by simp,by simpa using ap,l.o⟩
        ·
         obtain⟨k,hk,rfl,rfl,d,l⟩:=hrel;have a:=zE H.o l.o (by simp);have ab:=cbi 2 a;have ad:=cbi 3 a;have ae:=cbi 4 a;have af:=cbi 5 a;have ag:=cbi 6 a;have ah:=cbi 7 a;clear a
         by_cases b:k<Z r.drops
         ·obtain⟨F,ai,g,_,_⟩:=Bm HD.o (by omega)
          simp only[Au] at g;obtain⟨rfl,_,rfl⟩:=g;have z:=zD C.o l.o;have e0:wr.cell? ⟨F,k,S⟩=V (I (Aa r.drops[k])):=by have h:=qY (fun s:A Ab=>[I (Aa s)]) 1 (fun _=>rfl) (strRow1 HD.o) z k 0 b (by omega) rfl;simpa using h
          clear z;have B:Y _:=v7 R.lnDrop r.drops k b;have v:=f.o.drops.1;have o:=f.o.drops.2 r.drops[k] (Cr b);generalize r.drops[k]=m at*;have zn:(Aa (R.q m)).size<=3002:=by rw[Bz,R.q_len];omega
          have i:Y (Z m<=100000):=by show _<=_;omega
          have u:Z (R.lnDrop m)<=6100:=by
           unfold R.lnDrop;simp only[Ah,R.q_len,Bb,Bu];omega
          clear o;have n:Y ((Aa (pre4++((r.drops.take (k+1)).map R.lnDrop).flatten)).size<=80000000+6100*(k+1)):=by
           show _<=_;rw[Bz] at d;rw[Bz,B.o,<-Bl,Ah];omega
          have c:Y (∀x:As,x.data.toList=(pre4++((r.drops.take k).map R.lnDrop).flatten)++(R.lnDrop m)->I x=I (Aa (pre4++((r.drops.take (k+1)).map R.lnDrop).flatten))):=by
           intro x N;have:x=Aa (pre4++((r.drops.take (k+1)).map R.lnDrop).flatten):=by
            apply yt;rw[Be,B.o,N,Bl]
           rw[<-this]
          clear u;generalize pre4++((r.drops.take k).map R.lnDrop).flatten=acc at*;go_wp2_with fail;refine(xh m _ i.o).mono ?_;rintro e wX ⟨rfl,j⟩;rw[j];clear j wX;go_wp2;refine⟨⟨k+1,by omega,by go_num,c.o _ ?_,n.o,l.o⟩,by simp[intOf];omega⟩;rw[qC,qC,qC,Be,Be,R.lnDrop];simp
         ·have p:k=Z r.drops:=by omega
          subst p;rw[Cc (Aq _)] at d;rw[Cc (Aq _)];have v:=f.o.drops.1;have Q:Y (R.lines r=pre4++(r.drops.map R.lnDrop).flatten++[32,32,125,10]):=by
           show R.lines r=_;rw[<-an.o,<-aj.o,<-hA,<-ar.o];rfl
          go_wp2;go_ret;refine⟨tI ?_,zD C.o l.o⟩
          apply yt
          rw[Q.o,qC,Be,Be]
namespace R
theorem flat_len {α:Type}(f:α->A Ab)(c:Ad)(l:A α)(h:∀a∈l,Z (f a)<=c):Z (l.map f).flatten<=Z l*c:=by
 induction l <;> grind[List.flatten_cons,List.length_append,List.length_cons,Nat.succ_mul]
theorem lines_len (r:Rl)(a:Small r):Z (lines r)<=110000000:=by
 have g:Z (r.ms.map lnMt).flatten<=Z r.ms*6100:=flat_len _ _ _ (fun m hm=>by
  have:=a.ms.2 m hm;unfold lnMt;split <;> simp only[Ah,q_len,Bb,Bu] <;> omega)
 have b:∀t∈r.tg,Z (lnTg t)<=3100:=fun t b=>by
  have h:=a.tg.2 t b;have f:=decI_len t.2 h.2;unfold lnTg;simp only[Ah,q_len,Bb,Bu];omega
 have i:Z (lnTgs r.tg)<=Z r.tg*3200:=by
  cases hg:r.tg with
  |nil=>simp[lnTgs]
  |cons t l=>
   rw[hg] at b;have c:=b t (by simp);have d:Z (l.map fun u=>[44,32]++lnTg u).flatten<=Z l*3200:=flat_len _ _ _ (fun u hu=>by
    have:=b u (by simp[hu]);simp only[Ah,Bb,Bu];omega)
   unfold lnTgs;rw[Ah,Bb,Sr];omega
 have c:Z (r.sets.map lnSet).flatten<=Z r.sets*6100:=flat_len _ _ _ (fun m hm=>by
  have:=a.sets.2 m hm;unfold lnSet;simp only[Ah,q_len,Bb,Bu];omega)
 have d:Z (r.drops.map lnDrop).flatten<=Z r.drops*6100:=flat_len _ _ _ (fun m hm=>by
  have:=a.drops.2 m hm;unfold lnDrop;simp only[Ah,q_len,Bb,Bu];omega)
 have f:=decI_len r.number a.num;have j:=a.path;have k:=a.to;have n:Z (lnTo r)<=4000:=by
  unfold lnTo;split
  ·simp only[Ah,q_len,Bb,Bu];omega
  ·simp
 have o:=a.ms.1;have p:=a.tg.1;have q:=a.sets.1;have s:=a.drops.1;unfold lines lnHead;simp only[Ah,q_len,Bb,Bu]
 omega
def hostLines (h:Hst):A Ab:=[104,111,115,116,32]++q h.name++[32,123,10]++(h.rules.map lines).flatten++[125,10]
def plain (hs:A Hst):A Ab:=(hs.map hostLines).flatten
structure SmallH (h:Hst):Prop where
 name:Z h.name<=3000
 rules:Z h.rules<=4000/\∀r∈h.rules,Small r
end R
theorem gQ {a:A (A Aj)}{d:A R.Hst}(h:All2 (HostVal w) a d)(k:Ad)(f:k<Z d):∃b,a.flatten[k*2+1]?=V b/\RulesRow w b d[k].rules:=by
 induction h generalizing k with
 |nil=>simp at f
 | @cons c r cs rs hc _ ih=>
  obtain⟨b,rfl,j⟩:=hc
  match k with
  |0=>exact⟨b,rfl,j⟩
  |k+1=>
   obtain⟨v,g,i⟩:=ih k (by simpa using f);refine⟨v,?_,i⟩;rw[Ci,Cl (by simp;omega)];simp only[Bb,Bu];rw[show(k+1)*2+1-(0+1+1)=k*2+1 by omega];exact g
theorem fs {a:A (A Aj)}{b:A R.Rl}(h:All2 (RuleVal w) a b)(k:Ad)(f:k<Z b):∃cs,RuleVal w cs b[k]/\∀j,j<8->a.flatten[k*8+j]?=cs[j]?:=by
 induction h generalizing k with
 |nil=>simp at f
 | @cons c r cs b hc _ ih=>
  have e:Z c=8:=by obtain⟨m,o,n,l,rfl,_⟩:=hc;rfl
  match k with
  |0=>exact⟨c,hc,fun j hj=>by rw[Ci,Cx (by omega)];simp⟩
  |k+1=>
   obtain⟨d,g,i⟩:=ih k (by simpa using f);refine⟨d,g,fun j hj=>?_⟩;rw[Ci,Cl (by omega),e,show(k+1)*8+j-8=k*8+j by omega,i j hj]
theorem sS (v:Aj)(c:A R.Hst)(hH:HostsRow w B v c)(hn:Z c<=4000)(ag:∀h∈c,R.SmallH h):Calls prog 35 #[v] w fun e w'=>e=Af (I (Aa (R.plain c)))/\w.grownBy w' S:=by
 obtain⟨ax,o,t⟩:=hH;obtain⟨ha,hc,rfl⟩:=zL o;have l:=J o;have r:=J t;have an:=J ag;go_in;go_wp2
 go_loopw [3,4] (fun sv iv wr=>∃k:Ad,k<=Z c/\iv=O Ai k/\sv=I (Aa (((c.take k).map R.hostLines).flatten))/\(Aa (((c.take k).map R.hostLines).flatten)).size<=500000000000*k/\Y (w.grownBy wr S)) (fun _ iv _=>Z c-(intOf iv).toNat)
 ·exact⟨0,Ax _,rfl,rfl,by simp[Bz],zP _ _⟩
 ·
  obtain⟨k,hk,rfl,rfl,ah,HR⟩:=hrel
  by_cases p:k<Z c
  ·obtain⟨gm,ay,ab,_,_⟩:=Bm l.o (by omega)
   simp only[Au] at ab;obtain⟨rfl,_,rfl⟩:=ab;obtain⟨vR,ai,ap⟩:=gQ r.o k p;obtain⟨aw,C,Q⟩:=ap;obtain⟨ra,rc,rfl⟩:=zL C;have H0:Y (w.cell? ⟨gm,k*2,S⟩=V (I (Aa c[k].name))):=by
    show _=_;rw[Ap l.o (k*2) (by omega),wV r.o k p]
   have H1:Y (w.cell? ⟨gm,k*2+1,S⟩=V (X ra c[k].rules.length rc)):=by
    show _=_;rw[Ap l.o (k*2+1) (by omega),ai]
   have d:=J C;have ak:=J Q;have HF:Y _:=v7 R.hostLines c k p;have m:=an.o c[k] (Cr p);have F:Y (R.hostLines c[k]=[104,111,115,116,32]++R.q c[k].name++[32,123,10]++(c[k].rules.map R.lines).flatten++[125,10]):=rfl;generalize c[k]=hh at*;have ar:Y (Z hh.name<=100000):=by have:=m.name;show _<=_;omega
   have zn:(Aa (R.q hh.name)).size<=3002:=by rw[Bz,R.q_len];have:=m.name;omega
   have aA:=m.rules.1;have ao:=J m.rules.2;have e0:=HR.o.cell H0.o (by simp);have e1:=HR.o.cell H1.o (by simp);generalize N:((c.take k).map R.hostLines).flatten=acc at*;go_wp2_with fail;refine(xh hh.name _ ar.o).mono ?_;rintro e wX ⟨rfl,aj⟩;rw[aj];go_wp2_with fail;have E1:Y (Aa acc++⟨#[104,111,115,116,32]⟩++Aa (R.q hh.name)++⟨#[32,123,10]⟩=Aa (acc++[104,111,115,116,32]++R.q hh.name++[32,123,10])):=by
    show _=_;apply yt;rw[qC,qC,qC,Be,Be,Be]
   rw[E1.o];have av:(Aa (acc++[104,111,115,116,32]++R.q hh.name++[32,123,10])).size<=500000000000*k+4000:=by
    rw[Bz] at ah zn ⊢;simp only[Ah,Bb,Bu];omega
   generalize u:acc++[104,111,115,116,32]++R.q hh.name++[32,123,10]=pre at*;have s:=J u;obtain⟨wo,au⟩:∃x,x=wr:=⟨wr,rfl⟩;subst au
   go_loopw [3,5] (fun sv iv wz=>∃j:Ad,j<=Z hh.rules/\iv=O Ai j/\sv=I (Aa (pre++((hh.rules.take j).map R.lines).flatten))/\(Aa (pre++((hh.rules.take j).map R.lines).flatten)).size<=500000000000*k+4000+110000000*j/\Y (w.grownBy wz S)) (fun _ iv _=>Z hh.rules-(intOf iv).toNat)
   ·exact⟨0,Ax _,rfl,by simp,by simpa using av,HR⟩
   ·
    obtain⟨j,hj,rfl,rfl,g,b⟩:=hrel;have f1:=b.o.cell H1.o (by simp)
    by_cases z:j<Z hh.rules
    ·obtain⟨i,az,ad,_,_⟩:=Bm d.o (by omega)
     simp only[Au] at ad;obtain⟨rfl,_,rfl⟩:=ad;obtain⟨cs,af,f⟩:=fs ak.o j z;have am:Y (RuleVal wr cs hh.rules[j]):=af.keep b.o (za _ _);have E:Y _:=v7 R.lines hh.rules j z;have H:Y _:=ao.o hh.rules[j] (Cr z);have ae:=R.lines_len _ H.o;generalize hh.rules[j]=rl at*;obtain⟨vM,vT,vS,vD,rfl,hM,hT,hS,hD⟩:=af;obtain⟨m1,m2,rfl⟩:=zL hM;obtain⟨t1,t2,rfl⟩:=zL hT;obtain⟨x1,x2,rfl⟩:=zL hS;obtain⟨d1,d2,rfl⟩:=zL hD;have g0:wr.cell? ⟨i,j*8,S⟩=V (O Ai rl.number):=by
      refine b.o.cell (a:=⟨i,j*8,S⟩) ?_ (by simp);rw[Ap d.o (j*8) (by omega)];exact f 0 (by omega)
     have g1:wr.cell? ⟨i,j*8+1,S⟩=V (I (Aa rl.path)):=by
      refine b.o.cell (a:=⟨i,j*8+1,S⟩) ?_ (by simp);rw[Ap d.o (j*8+1) (by omega)];exact f 1 (by omega)
     have g2:wr.cell? ⟨i,j*8+2,S⟩=V (X m1 (Z rl.ms) m2):=by
      refine b.o.cell (a:=⟨i,j*8+2,S⟩) ?_ (by simp);rw[Ap d.o (j*8+2) (by omega)];exact f 2 (by omega)
     have g3:wr.cell? ⟨i,j*8+3,S⟩=V (X t1 (Z rl.tg) t2):=by
      refine b.o.cell (a:=⟨i,j*8+3,S⟩) ?_ (by simp);rw[Ap d.o (j*8+3) (by omega)];exact f 3 (by omega)
     have g4:wr.cell? ⟨i,j*8+4,S⟩=V (Av rl.change):=by
      refine b.o.cell (a:=⟨i,j*8+4,S⟩) ?_ (by simp);rw[Ap d.o (j*8+4) (by omega)];exact f 4 (by omega)
     have g5:wr.cell? ⟨i,j*8+5,S⟩=V (I (Aa rl.to)):=by
      refine b.o.cell (a:=⟨i,j*8+5,S⟩) ?_ (by simp);rw[Ap d.o (j*8+5) (by omega)];exact f 5 (by omega)
     have g6:wr.cell? ⟨i,j*8+6,S⟩=V (X x1 (Z rl.sets) x2):=by
      refine b.o.cell (a:=⟨i,j*8+6,S⟩) ?_ (by simp);rw[Ap d.o (j*8+6) (by omega)];exact f 6 (by omega)
     have g7:wr.cell? ⟨i,j*8+7,S⟩=V (X d1 (Z rl.drops) d2):=by
      refine b.o.cell (a:=⟨i,j*8+7,S⟩) ?_ (by simp);rw[Ap d.o (j*8+7) (by omega)];exact f 7 (by omega)
     have y:Y ((Aa (pre++((hh.rules.take (j+1)).map R.lines).flatten)).size<=500000000000*k+4000+110000000*(j+1)):=by
      show _<=_;rw[Bz] at g;rw[Bz,E.o,<-Bl,Ah];omega
     have n:Y (I (Aa (pre++((hh.rules.take j).map R.lines).flatten)++Aa (R.lines rl))=I (Aa (pre++((hh.rules.take (j+1)).map R.lines).flatten))):=by
      show _=_;rw[R.str_append,E.o,Bl]
     have zl:(Aa (R.lines rl)).size<=110000000:=by rw[Bz];exact ae
     generalize pre++((hh.rules.take j).map R.lines).flatten=ac2 at*;go_wp2_with fail;refine(zfW _ rl am.o H.o).mono ?_;rintro e wL ⟨rfl,aa⟩;have al:Y _:=zD b.o aa;go_wp2;exact⟨⟨j+1,by omega,by go_num,n.o,y.o,al⟩,by simp[intOf];omega⟩
    ·have aq:j=Z hh.rules:=by omega
     subst aq;rw[Cc (Aq _)] at g ⊢;have y:Y ((Aa (((c.take (k+1)).map R.hostLines).flatten)).size<=500000000000*(k+1)):=by
      show _<=_;rw[Bz] at g ah zn;rw[Bz,HF.o,F.o];rw[<-s.o] at g;simp only[Ah,Bb,Bu] at g ⊢
      omega
     have n:Y (I (Aa (pre++(hh.rules.map R.lines).flatten)++⟨#[125,10]⟩)=I (Aa (((c.take (k+1)).map R.hostLines).flatten))):=by
      show _=_;rw[HF.o,F.o,<-s.o]
      congr 1
      apply yt;rw[qC,Be,Be];simp
     go_wp2;exact⟨⟨k+1,by omega,by go_num,n.o,y.o,b⟩,by simp[intOf];omega⟩
  ·go_wp2
   go_ret;rw[Cc (by omega)];exact⟨rfl,HR.o⟩
end Go.Proofs.YtfocdefchbnkpaaGreatDoor
