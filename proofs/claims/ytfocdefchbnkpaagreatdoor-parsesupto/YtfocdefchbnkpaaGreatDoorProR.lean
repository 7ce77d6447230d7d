import Derived.Test.YtfocdefchbnkpaaGreatDoorRefJ
import Derived.Shelf.SlSortCmp.SmallK
import Derived.Deep.CutRange
import Derived.Laws.AppendOwnNone
import Derived.Deep.RegionHeld3
import Derived.Laws.Cover1
import Derived.Shelf.Strings.BuilderK
import Derived.Shelf.Small.Wraps
set_option maxRecDepth 100000
set_option maxHeartbeats 20000000
open Go renaming World->Ag,Value->Aj,Calls->Am,info_parts->Ej,bodyPost_ret->Et,results->Hm,maxLen->Bh,wpList_append_lies->Ei,TypeId->Cs,heap_alloc_new->Bn,wpList_append_own->Cu,wpList_append_own_none->Qa
open Go.Act renaming eval->Im
open Go.Addr renaming add->Qp
open Go.Addr.mk renaming injEq->Qo
open Go.Ending renaming returned->Af
open Go.IntKind renaming i64->Ai
open Go.Lib renaming byteCells_append->Hl
open Go.Obj renaming cells->Ae
open Go.Proofs.YtfocdefchbnkpaaGreatDoor.R renaming str->Aa,wHost->Hy,size_eq->Cp,Hst->Fp,hostS->Mm,notS->Cw,needS->Cg,cur->Bj,among->Ip,str_toList->Be,rlLoop->Nd,Rl->Gn,toks->Vg
open Go.RowKit renaming Below->Ms
open Go.RowKit.Below renaming refl->Vw
open Go.Shelf renaming Ren->Ij
open Go.Sort renaming grow->Vt,alloc_eq_grow->Su,ltStr->Iy,ltInt->Mw,SWO->Vh,swo_ltStr->Hk,swo_ltInt->Nl
open Go.Value renaming slice->X,string->I,int->O,agg->Fe,pointer->Al,bool->Av,tuple->Cm
open Go.Value.slice renaming injEq->Au
open Go.World renaming ownsRow_nil->Bk,grownBy_alloc->Ac,alloc->Eo,drew->Md
open Go.World.ownsRow renaming alloc->Ao,lt->An,cellAt->Ap,form->Bm
open List renaming length->Z
open Option renaming some->V,none->S
open Or renaming inr->Bf
open Prod renaming fst->Bq
open _root_ renaming Nat->Ad,List->A,ByteArray->As,Option->Br,Inhabited->Xl,Array->Fh,Int->Ak,UInt8->Ab
namespace Go.Proofs.YtfocdefchbnkpaaGreatDoor
open Go.RowKit Tryz
theorem iy:(prog.info? 213).map (fun i=>(i.zero,i.size,i.bytes))=V (V (Fe #[O Ai 0,I ⟨#[]⟩,X S 0 0,X S 0 0,I ⟨#[]⟩,X S 0 0,X S 0 0]),7,136):=by kernel_rfl
variable {w:Ag}{B:Ad}{v:Aj}
theorem uU {b:A P.Rl}(h:PRulesRow w B v b):∃a c,v=X a (Z b) c:=by obtain⟨d,f,_⟩:=h;exact zL f
theorem ziC (w:Ag)(B:Ad):PRulesRow w B (X S 0 0) []:=⟨[],Bk _ _ _ _,.nil⟩
theorem zi5 {rb:Ad}{s:As}{st:P.St}(h:PInv w rb s st)(B:Ad)(v:Aj)(y:A P.Hst)(hR:PHostsRow w B v y)(hn:Z y<=2000000000000)(hG:Glob w)(ay:rb≠0):Am prog 148 #[Al (V ⟨rb,0,S⟩),v] w fun e w'=>∃vR,e=Af (Fe #[I (Aa (xP s.data.toList st (y.map P.Hst.name)).1.name),vR])/\PInv w' rb s (xP s.data.toList st (y.map P.Hst.name)).2/\w.grownBy w' (V rb)/\PRulesRow w' w.heap.size vR (xP s.data.toList st (y.map P.Hst.name)).1.rules:=by
 obtain⟨i0,hi,aZ,a0,a1⟩:=Ej iy;have HP:Y (xP s.data.toList st (y.map P.Hst.name)=eu s.data.toList (kg s.data.toList st (y.map P.Hst.name))):=rfl;have HA:Y (kg s.data.toList st (y.map P.Hst.name)=x8 s.data.toList (zS s.data.toList (zy st (Z y) 4) Hy) (y.map P.Hst.name)):=by show _=_;unfold kg;rw[Bv]
 have H0:=J h;have a5:=zO h.rd;have a9:=h.len;have HR:=J (hR);have HN:=J hn;have HG:=J (hG);obtain⟨va,vc,rfl⟩:∃a c,v=X a (Z y) c:=by obtain⟨css,h1,_⟩:=hR;exact zL h1
 generalize xP s.data.toList st (y.map P.Hst.name)=res at*;go_in;have C0:Y (w.grownBy w (V rb)):=zP _ _;go_wp2_with fail;refine(vq (H0.o.keep (Ac _ _ _)) _ _).mono ?_;rintro e w1 ⟨rfl,I1,af⟩;have J1:=J I1;have s1:w.heap.size+1<=w1.heap.size:=by have h:=af.size;simpa using h
 have G1:Y (w.grownBy w1 (V rb)):=(zD (Ac _ _ _) af);have C1:=J (zD C0.o G1.o);have aN:Y (w1.heap[w.heap.size]?=V (Ae #[I ⟨#[]⟩,X S 0 0] 146)):=ql af (by simp;omega);go_wp2_with fail;refine(y8 J1.o _).mono ?_;rintro e w2 ⟨rfl,I2,aj⟩;have J2:=J I2;have s2:w1.heap.size+0<=w2.heap.size:=by have h:=aj.size;simpa using h
 have G2:=J (aj);have C2:=J (zD C1.o G2.o);have z2:=C2.o.size;have aO:=J (zE aN.o G2.o (by simp;omega));rw[show(⟨#[104,111,115,116]⟩:As).data.toList=Hy from rfl] at J2;go_wp2_with fail;refine(aq J2.o B _ y (HR.o.keep C2.o (H0.o.safe (by decide))) HN.o (HG.o.keep C2.o (by simpa using ay)) ay).mono ?_;rintro e w3 ⟨rfl,I3,ak⟩;have J3:=J I3;have b3:=zO J3.o.rd;have s3:w2.heap.size+0<=w3.heap.size:=by have h:=ak.size;simpa using h
 have G3:=J (ak);have C3:=J (zD C2.o G3.o);have z3:=C3.o.size;have aP:=J (zE aO.o G3.o (by simp;omega));rw[<-HA.o] at J3;rw[<-HA.o];generalize kg s.data.toList st (y.map P.Hst.name)=qa at*;obtain⟨nm,sA⟩:=qa;simp only at J3 HP ⊢;go_wp2_with fail;refine(y8 (J3.o.keep (Ac _ _ _)) _).mono ?_;rintro e w4 ⟨rfl,I4,al⟩;have J4:=J I4;have G4:Y (w3.grownBy w4 (V rb)):=(zD (Ac _ _ _) al);have C4:=J (zD C3.o G4.o);have aQ:=J (zE aP.o G4.o (by simp;omega));have aU:Y (w4.heap[w3.heap.size]?=V (Ae #[I (Aa nm),X S 0 0] 146)):=ql al (by simp;omega);have JB:=J (J4);have C:Y (res=(⟨nm,(xB s.data.toList (Z s.data.toList+1) (zS s.data.toList sA [123]) []).1⟩,zS s.data.toList (xB s.data.toList (Z s.data.toList+1) (zS s.data.toList sA [123]) []).2 [125])):=HP.o;generalize zS s.data.toList sA [123]=sB at*;generalize hQ:xB s.data.toList (Z s.data.toList+1) sB []=Q at*;have HQ:=J hQ;have b0:=JB.o.bd;go_wp2_with fail
 go_loopw [] (fun wr=>∃(n:Ad) (f:A P.Rl) (p:P.St) (vL:Aj),Z f<=p.tok.at_/\p.tok.at_<=s.size/\s.size<n+p.tok.at_/\Y (xB s.data.toList n p f=Q)/\Y (PInv wr rb s p)/\Y (w.grownBy wr (V rb))/\Y (wr.heap[w.heap.size]?=V (Ae #[I ⟨#[]⟩,X S 0 0] 146))/\Y (wr.heap[w3.heap.size]?=V (Ae #[I (Aa nm),vL] 146))/\Y (PRulesRow wr w.heap.size vL f)) (fun wr=>s.size+1-atOf wr rb)
 ·exact⟨Z s.data.toList+1,[],sB,_,Ax _,by omega,by rw[Cp];omega,HQ.o,JB,C4,aQ.o,aU.o,ziC _ _⟩
 ·
  obtain⟨n,f,p,vL,a6,bc,bb,HL,IR,CR,aT,aW,HO⟩:=hrel;obtain⟨n,rfl⟩:∃m,n=m+1:=⟨n-1,by omega⟩;have l:=HL.o;rw[xB] at l;obtain⟨la,lc,rfl⟩:=uU HO.o;go_wp2_with fail;refine(vN IR.o _).mono ?_;rintro e aa ⟨rfl,ai⟩;have av:=zT ai (V rb);have ae:Y _:=(IR.o).keep ai;have ad:=J (av);have ag:=J (zD CR.o ad.o);have bn:=ag.o.size;have F:=J (zE aT.o ad.o (by simp;omega));have r:=J (zE aW.o ad.o (by simp;omega));have ah:=J (HO.o.keep ad.o (IR.o.safe (by decide)));rw[show(⟨#[114,117,108,101]⟩:As).data.toList=qz from rfl]
  cases hgo:qH p qz
  ·rw[hgo] at l
   simp only[Ct,Gj] at l;have HF:Y (Q=(f,p)):=l.symm;rw[HF.o] at C;simp only at C;go_wp2_with fail;refine(y8 ae.o _).mono ?_;rintro e a4 ⟨rfl,ao,au⟩;have ap:=J ao;have ab:=J (au);have az:=J (zD ag.o ab.o);have i:=J (zE F.o ab.o (by simp;omega));have H:=J (zE r.o ab.o (by simp;omega));rw[show(⟨#[125]⟩:As).data.toList=[125] from rfl] at ap;have aH:=J (ah.o.keep ab.o (ae.o.safe (by decide)));have bj:=cbi 0 H.o;have bk:=cbi 1 H.o;have a2:=cbi 0 i.o;have bl:=zm9 0 i.o;have a3:=cbi 1 i.o;have bm:=zm9 1 i.o;go_wp2;have am:=zD (zF a4 w.heap.size 0 (I (Aa nm))) (zF _ w.heap.size 1 (X la (Z f) lc));refine Et (v:=.agg #[I (Aa nm),X la (Z f) lc]) (by simp[Hm,results148,go_sem,a2,a3]) rfl ⟨_,by rw[C.o],?_,ze az.o am (Aq _),?_⟩
   ·rw[C.o];exact ap.o.other am (by omega)
   ·rw[C.o];exact aH.o.keep am (xQ i.o (by decide))
  ·rw[hgo] at l
   simp only[Gq] at l;have aY:=rG s.data.toList p (f.map P.Rl.number) hgo;have an:=J l;have bf:=cbi 1 r.o;have HC:Y (∀w',aa.grownBy w' S->Am prog 208 #[Al (V ⟨rb,0,S⟩),X la (Z f) lc] w' fun e w''=>∃cs,e=Af (Fe cs.toArray)/\PInv w'' rb s (xI s.data.toList p (f.map P.Rl.number)).2/\w'.grownBy w'' (V rb)/\PRuleVal w'' cs (xI s.data.toList p (f.map P.Rl.number)).1):=fun w' hg=>zi9 (ae.o.keep hg) w.heap.size _ f (ah.o.keep hg (za _ _)) (by omega)
   generalize xI s.data.toList p (f.map P.Rl.number)=qs at*;obtain⟨d,p2⟩:=qs;simp only at an aY HC;have aD:Y (Z f+1<=Bh):=by show _<=_;unfold Bh;omega
   go_wp2
   go_region_law (first|(refine step_append_lies _ rfl (.tmp 21) (.tmp 26) 144 rfl w.heap.size 213 i0 _ 7 136 underlying144 hi aZ a0 a1 rfl (by decide) _ _ _ (by simp[Im]) (Ao E.o _) ⟨o.heap.size,0,S⟩ 1 1 [O Ai d.number,I (Aa d.path),X m1 (Z d.ms) m2,X t1 (Z d.tg) t2,I (Aa d.rep),X x1 (Z d.sets) x2,X d1 (Z d.drops) d2] (by simp[Im]) rfl aG.o aA.o (by decide) aD.o (by omega) aC.o (o.heap.size+1) aM.o ?_;intro g9 x w9 ax g a7 ba;have N:∀k,(X la (Z f) lc).ownBlock=V k->w.heap.size<=k:=fun k hk=>(An E.o k hk).1;have J9:Y (PInv w9 rb s p2):=(JN.o.keep (Ac _ _ _)).away g (fun k hk=>by { have h1:=N k hk;omega });have C9:Y (w.grownBy w9 (V rb)):=qI (zD CN.o (Ac _ _ _)) g N;have aR:Y (w9.heap[w.heap.size]?=V (Ae #[I ⟨#[]⟩,X S 0 0] 146)):=zw (zE ar.o (Ac _ _ S) (by simp)) g (fun k hk=>zI ar.o E.o (by decide) k hk);have t:Y (w9.heap[w3.heap.size]?=V (Ae #[I (Aa nm),X la (Z f) lc] 146)):=zw (zE q.o (Ac _ _ S) (by simp)) g (fun k hk=>zI q.o E.o (by decide) k hk);have gA:o.grownBy (o.alloc (Ae #[O Ai d.number,I (Aa d.path),X m1 (Z d.ms) m2,X t1 (Z d.tg) t2,I (Aa d.rep),X x1 (Z d.sets) x2,X d1 (Z d.drops) d2] 213)) S:=Ac _ _ _;have z:Safe (o.alloc (Ae #[O Ai d.number,I (Aa d.path),X m1 (Z d.ms) m2,X t1 (Z d.tg) t2,I (Aa d.rep),X x1 (Z d.sets) x2,X d1 (Z d.drops) d2] 213)) (X la (Z f) lc).ownBlock pleaves:=xk (Ao E.o _) (by decide);have aI:Y (PRulesRow w9 w.heap.size (X (V ⟨g9,0,S⟩) (Z f+1) x) (f++[d])):=⟨css2++[[O Ai d.number,I (Aa d.path),X m1 (Z d.ms) m2,X t1 (Z d.tg) t2,I (Aa d.rep),X x1 (Z d.sets) x2,X d1 (Z d.drops) d2]],(by { rw[Ah,Eg];exact ax }),(aB.o.snoc aL.o).map fun a b hab=>(hab.keep gA (za _ _)).keep g z⟩;have q9:=cbi 1 t.o;have be:=zm9 1 t.o;clear ax g N gA z)|(go_simp;go_at_call 208;refine(HC.o _ (zV aa)).mono ?_;rintro e o ⟨cs,rfl,IN,aw,aX⟩;obtain⟨vM,vT,vS,vD,rfl,hM,hT,hS,hD⟩:=aX;obtain⟨m1,m2,rfl⟩:=zL hM;obtain⟨t1,t2,rfl⟩:=zL hT;obtain⟨x1,x2,rfl⟩:=zL hS;obtain⟨d1,d2,rfl⟩:=zL hD;have aL:Y (PRuleVal o [O Ai d.number,I (Aa d.path),X m1 (Z d.ms) m2,X t1 (Z d.tg) t2,I (Aa d.rep),X x1 (Z d.sets) x2,X d1 (Z d.drops) d2] d):=⟨_,_,_,_,rfl,hM,hT,hS,hD⟩;have GN:aa.grownBy o (V rb):=zD (zT (zV aa) _) aw;have JN:Y (PInv o rb s p2):=IN;have CN:=J (zD ag.o GN);have sN:aa.heap.size<=o.heap.size:=GN.size;have ar:=J (zE F.o GN (by simp;omega));have q:=J (zE r.o GN (by simp;omega));have aJ:Y (PRulesRow o w.heap.size (X la (Z f) lc) f):=ah.o.keep GN (ae.o.safe (by decide));obtain⟨css2,hrow2,hall2⟩:=aJ.o;have E:=J hrow2;have aB:=J hall2;have bg:=cbi 0 q.o;have bh:=cbi 1 q.o;have bi:=zO q.o;have bN:=zO JN.o.rd;have aG:Y (∀j u,([O Ai d.number,I (Aa d.path),X m1 (Z d.ms) m2,X t1 (Z d.tg) t2,I (Aa d.rep),X x1 (Z d.sets) x2,X d1 (Z d.drops) d2]:A Aj)[j]?=V u->(o.alloc (Ae #[O Ai d.number,I (Aa d.path),X m1 (Z d.ms) m2,X t1 (Z d.tg) t2,I (Aa d.rep),X x1 (Z d.sets) x2,X d1 (Z d.drops) d2] 213)).cell? ((⟨o.heap.size,0,S⟩:Addr).add j)=V u):=zZ o #[_,_,_,_,_,_,_] _ _ rfl;have aA:Y (∀u∈([O Ai d.number,I (Aa d.path),X m1 (Z d.ms) m2,X t1 (Z d.tg) t2,I (Aa d.rep),X x1 (Z d.sets) x2,X d1 (Z d.drops) d2]:A Aj),u.oneCell'=true):=by { intro u hu;simp only[En,Ge,Mn] at hu;rcases hu with rfl|rfl|rfl|rfl|rfl|rfl|rfl <;> rfl };have aC:Y (w.heap.size<=(o.alloc (Ae #[O Ai d.number,I (Aa d.path),X m1 (Z d.ms) m2,X t1 (Z d.tg) t2,I (Aa d.rep),X x1 (Z d.sets) x2,X d1 (Z d.drops) d2] 213)).heap.size):=by { show _<=_;rw[show(o.alloc (Ae #[O Ai d.number,I (Aa d.path),X m1 (Z d.ms) m2,X t1 (Z d.tg) t2,I (Aa d.rep),X x1 (Z d.sets) x2,X d1 (Z d.drops) d2] 213)).heap.size=o.heap.size+1 from by simp];omega };have aM:Y ((o.alloc (Ae #[O Ai d.number,I (Aa d.path),X m1 (Z d.ms) m2,X t1 (Z d.tg) t2,I (Aa d.rep),X x1 (Z d.sets) x2,X d1 (Z d.drops) d2] 213)).heap.size=o.heap.size+1):=by { show _=_;simp };clear IN aw GN hM hT hS hD hrow2 hall2))
   all_goals
    have gS:=zF w9 w3.heap.size 1 (X (V ⟨g9,0,S⟩) (Z f+1) x);have JS:Y _:=J9.o.other gS (by omega);have CS:=J (ze C9.o gS (by omega));have aS:=J (zE aR.o gS (by simp;omega));have aV:Y ((w9.setCell ⟨w3.heap.size,1,S⟩ (X (V ⟨g9,0,S⟩) (Z f+1) x)).heap[w3.heap.size]?=V (Ae #[I (Aa nm),X (V ⟨g9,0,S⟩) (Z f+1) x] 146)):=zH t.o _;have aK:Y _:=aI.o.keep gS (xQ t.o (by decide));have aF:=J (jg JS.o);have aE:=J (jg IR.o);have a8:=JS.o.bd;go_wp2
    go_roundw
    ·exact⟨n,f++[d],p2,_,by rw[Ah];simp;omega,by omega,by omega,an,JS,CS,aS,aV,aK⟩
    ·rw[aF.o,aE.o];omega
theorem ir:(prog.info? 146).map (fun i=>(i.zero,i.size,i.bytes))=V (V (Fe #[I ⟨#[]⟩,X S 0 0]),2,40):=by kernel_rfl
def rblk (cs:A Aj):Br Ad:=(cs[1]?.getD undef).ownBlock
def PHosts (w:Ag)(B:Ad)(v:Aj)(hs:A P.Hst):Prop:=
 ∃css:A (A Aj),w.ownsRow B 146 2 v (Z hs) css.flatten/\All2 (PHostVal w) css hs/\css.Pairwise (fun a b=>∀k,rblk a=V k->rblk b≠V k)/\∀a∈css,∀k,rblk a=V k->B<=k
theorem PHosts.row {a:A P.Hst}(h:PHosts w B v a):PHostsRow w B v a:=by grind[P.Hst,PHosts,PHostsRow]
theorem PHosts.keep {w':Ag}{g:A P.Hst}{row:Br Ad}(h:PHosts w B v g)(f:w.grownBy w' row)(c:Safe w row phtags):PHosts w' B v g:=by
 obtain⟨d,i,j,k⟩:=h;exact⟨d,x7 i f c (by decide),j.map fun a b hab=>hab.keep f (jW c),k⟩
theorem PHosts.nil (w:Ag)(B:Ad):PHosts w B (X S 0 0) []:=⟨[],Bk _ _ _ _,.nil,.nil,fun a ha=>by simp at ha⟩
theorem PHosts.len {b:A P.Hst}(h:PHosts w B v b):∃a c,v=X a (Z b) c:=by obtain⟨d,f,_⟩:=h;exact zL f
theorem zb5 {a:A Aj}{h:P.Hst}(f:PHostVal w a h):∀k,rblk a=V k->k<w.heap.size:=by
 obtain⟨g,rfl,b,c,_⟩:=f;intro k d;exact(An c k d).2
theorem zjV {b:A (A Aj)}{c:A P.Hst}(h:All2 (PHostVal w) b c):∀a∈b,∀k,rblk a=V k->k<w.heap.size:=by
 induction h <;> grind[zb5,P.Hst,All2,PHostVal,rblk]
theorem zf7 {rb:Ad}{s:As}{st:P.St}(h:PInv w rb s st)(hG:Glob w)(ah:rb≠0):Am prog 101 #[Al (V ⟨rb,0,S⟩)] w fun e w'=>∃v,e=Af v/\PInv w' rb s (qg s.data.toList (Z s.data.toList+1) st []).2/\w.grownBy w' (V rb)/\PHosts w' w.heap.size v (qg s.data.toList (Z s.data.toList+1) st []).1:=by
 obtain⟨i0,hi,av,aw,ax⟩:=Ej ir;have H0:=J h;have az:=zO h.rd;have aD:=h.len;have b0:=h.bd;have HG:=J (hG);clear h hG;generalize hQ:qg s.data.toList (Z s.data.toList+1) st []=Q at*;have HQ:=J hQ;clear hQ;go_in;go_wp2_with fail
 go_loopw [3] (fun v wr=>∃(n:Ad) (c:A P.Hst) (p:P.St),Z c<=p.tok.at_/\p.tok.at_<=s.size/\s.size<n+p.tok.at_/\Y (qg s.data.toList n p c=Q)/\Y (PInv wr rb s p)/\Y (w.grownBy wr (V rb))/\Y (PHosts wr w.heap.size v c)) (fun _ wr=>s.size+1-atOf wr rb)
 ·exact⟨Z s.data.toList+1,[],st,Ax _,by omega,by rw[Cp];omega,HQ.o,H0,zP _ _,PHosts.nil _ _⟩
 ·
  obtain⟨n,c,p,aA,aG,aF,HL,IR,CR,HO⟩:=hrel;obtain⟨n,rfl⟩:∃m,n=m+1:=⟨n-1,by omega⟩;have f:=HL.o;rw[qg] at f;obtain⟨la,lc,rfl⟩:=HO.o.len;go_wp2_with fail;refine(vN IR.o _).mono ?_;rintro e aH ⟨rfl,q⟩;have C:=zT q (V rb);have aa:Y _:=(IR.o).keep q;have ad:=J (C);have j:=J (zD CR.o ad.o);have ay:=j.o.size;clear C q;have F:=J (HO.o.keep ad.o (IR.o.safe (by decide)));rw[show(⟨#[104,111,115,116]⟩:As).data.toList=Hy from rfl]
  cases hgo:qH p Hy
  ·rw[hgo] at f
   simp only[Ct,Gj] at f;have HF:=J (f.symm);clear f HL;go_wp2;go_ret;exact⟨_,rfl,by rw[HF.o];exact aa.o,j.o,by rw[HF.o];exact F.o⟩
  ·rw[hgo] at f
   simp only[Gq] at f;have ar:=zdL s.data.toList p (c.map P.Hst.name) hgo;have ae:=J f;clear f HL;go_wp2_with fail;refine(zi5 aa.o w.heap.size _ c F.o.row (by omega) (HG.o.keep j.o (by simpa using ah)) ah).mono ?_;rintro e wN ⟨vR,rfl,IN,z,y⟩;generalize xP s.data.toList p (c.map P.Hst.name)=qs at*;obtain⟨x,p2⟩:=qs;simp only at ae ar IN y ⊢;obtain⟨r1,r2,rfl⟩:=uU y;have JN:=J (IN);have ay:=j.o.size;have CN:=J (zD j.o z);have zN:=CN.o.size;have H:=J (y);obtain⟨aq,t,g,ag,af⟩:=F.o;have ab:=aa.o.safe (l:=phtags) (by decide);have N:=J (x7 t z ab (by decide));have ai:=J (g.map fun a b hab=>hab.keep z (jW ab));have ao:=J (ag);have aj:=J (af);have ak:=J (zjV g);clear IN z y t g ag af ab;go_wp2_with (at_builtin;refine Ei _ rfl _ _ 86 rfl (w.heap.size) 146 i0 _ 2 40 underlying86 hi av aw ax rfl (by decide) _ _ _ rfl (Ao N.o _) ⟨wN.heap.size,0,S⟩ 1 1 [I (Aa x.name),X r1 (Z x.rules) r2] rfl rfl ?c1 ?c2 (by decide) ?c3 ?c4 ?c5 (wN.heap.size+1) (by simp) ?_)
   ·exact zZ _ #[_,_] _ _ (by simp)
   ·intro u hu;simp at hu;rcases hu with rfl|rfl <;> rfl
   ·unfold Bh;omega
   ·omega
   ·simp;omega
   intro g9 ap w9 r d aB aE;have gA:wN.grownBy (wN.alloc (Ae #[I (Aa x.name),X r1 (Z x.rules) r2] 146)) S:=Ac _ _ _;have i:Safe (wN.alloc (Ae #[I (Aa x.name),X r1 (Z x.rules) r2] 146)) (X la (Z c) lc).ownBlock prtags:=xk (Ao N.o _) (by decide);have o:∀k,(X la (Z c) lc).ownBlock=V k->w.heap.size<=k:=fun k E=>(An N.o k E).1
   have an:Y (PHosts w9 w.heap.size (X (V ⟨g9,0,S⟩) (Z c+1) ap) (c++[x])):=by
    refine⟨aq++[[I (Aa x.name),X r1 (Z x.rules) r2]],?_,?_,?_,?_⟩
    ·rw[Ah,Eg];exact r
    ·exact(ai.o.snoc ⟨_,rfl,H.o.base (Ax _)⟩).map fun a b hab=>(hab.keep gA (za _ _)).keep d i
    ·rw[Fx]
     refine⟨ao.o,List.pairwise_singleton _ _,?_⟩;intro a B b hb k E au;simp at hb;subst hb;have h1:=ak.o a B k E;obtain⟨cr,hr,_⟩:=H.o;have h2:=(An hr k au).1
     omega
    ·intro a B k E
     rcases Ea.1 B with B|B
     ·exact aj.o a B k E
     ·simp at B;subst B
      obtain⟨cr,hr,_⟩:=H.o;have h2:=(An hr k E).1
      omega
   have J9:Y (PInv w9 rb s p2):=(JN.o.keep gA).away d (fun k E=>by have h1:=o k E;omega);have C9:Y (w.grownBy w9 (V rb)):=qI (zD CN.o (zT gA _)) d o;have am:=J (jg J9.o);have al:=J (jg IR.o);have aC:=J9.o.bd;clear r d gA i o;go_wp2
   go_roundw
   ·exact⟨n,c++[x],p2,by rw[Ah];simp;omega,by omega,by omega,ae,J9,C9,an⟩
   ·rw[am.o,al.o];omega
end Go.Proofs.YtfocdefchbnkpaaGreatDoor
namespace Go.Proofs.YtfocdefchbnkpaaGreatDoor
open Go.RowKit Go.Sort Tryz
theorem tB {α: Type} [Xl α] (enc : α → A Aj) (k : Ad) (hk : ∀ x, Z (enc x)=k) (d : A α) (t : Ad) (h : t<Z d * k) : (d.map enc).flatten[t]? = V (enc d[t / k]!)[t % k]! := by
  have k0 : 0<k := by
    rcases Sh k with h0|h0
    · subst h0; simp at h
    · exact h0
  induction d generalizing t with
  |nil => simp at h
  |cons x d ih =>
    rw [Er, Ci]
    by_cases ht : t<k
    · rw [Cx (by rw [hk]; exact ht), Nat.div_eq_of_lt ht, Nat.mod_eq_of_lt ht]
      rw [Bd (by rw [hk]; exact ht)]
      congr 1
      rw [Sc _ t (by rw [List.getElem!_cons_zero, hk]; exact ht)]
      rfl
    · obtain ⟨u, rfl⟩ : ∃ u, t=u + k := ⟨t-k, by omega⟩
      rw [Cl (by rw [hk]; omega), hk, Nat.add_sub_cancel, ih u (by simp [Nat.add_mul] at h; omega), Nat.add_div_right _ k0, Nat.add_mod_right]
      rfl
variable {α:Type}
theorem zb2  [Xl α] (enc:α->A Aj)(k:Ad)(b:∀x,Z (enc x)=k)(d:A α):(flatK enc k d.toArray).toList=(d.map enc).flatten:=by
 apply Qt
 intro t
 by_cases h:t<Z d*k
 ·rw[tB enc k b d t h]
  have a:=get_flatK enc k d.toArray t (by simpa using h);rw[Sc _ t (by simpa using h)] at a;rw[Nh,Fj (by simpa using h),a];simp
 ·rw[Qh (by simp;omega),Qh]
  have:Z (d.map enc).flatten=Z d*k:=by
   clear h
   induction d with
   |nil=>simp
   |cons x d ih=>rw[Er,Ci,Ah,ih,b,Bb,Nat.add_mul];omega
  omega
theorem ij (enc:α->A Aj)(k:Ad)(a:∀x,Z (enc x)=k)(d:A α):Z (d.map enc).flatten=Z d*k:=by
 induction d <;> grind[List.flatten_cons,List.length_append,List.length_cons,Nat.add_mul]
theorem bZ  [Xl α] {w:Ag}{B g b:Ad}{e:Cs}(enc:α->A Aj)(k:Ad)(f:∀x,Z (enc x)=k)(d:A α)
  (h:w.ownsRow B e k (X (V ⟨g,0,S⟩) (Z d) b) (Z d) (d.map enc).flatten):HoldsK enc k w g 0 d.toArray:=by
 intro j c;have a:j<Z d*k:=by simpa using c
 rw[Gr];refine⟨?_,?_⟩
 ·rw[Ap h j a,tB enc k f d j a,get_flatK enc k d.toArray j (by simpa using a)]
  simp
 ·rcases h.2 with ⟨h1,_⟩|⟨g',c',cur,h1,_,h2,_⟩
  ·cases h1
  ·simp only[Au,Ey,Qo] at h1
   obtain⟨⟨rfl,_⟩,_,rfl⟩:=h1;exact zG h2
theorem gN  [Xl α] (enc:α->A Aj)(k:Ad)(w:Ag)(g m:Ad)(d:Fh α)(f:Fh Obj):w.grownBy (sortWorldK enc k w g 0 m d f) (V g):=by
 refine⟨rfl,rfl,rfl,?_,?_⟩
 ·simp[sortWorldK,grow,putRowK,putRow,mapBlock,Go.Sort.ahead]
 ·intro j c b
  have a:g≠j:=fun h=>b (by rw[h])
  simp only[sortWorldK,grow,putRowK,putRow,mapBlock,Go.Sort.ahead];rw[Qr (by simpa using c),Sy,Aw a]
theorem ziD (F a:Fh Aj)(h:F.size<=a.size):((putCells id 0 F a).toList.take F.size)=F.toList:=by
 apply Qt
 intro t;rw[Gi]
 by_cases b:t<F.size
 ·rw[Az b]
  simp only[putCells,Nh,Array.getElem?_mapIdx];rw[Fj (by omega),Fj b];simp[b]
 ·rw[Aw b,Qh (by simpa using b)]
theorem nr  [Xl α] {w:Ag}{B g a:Ad}{e:Cs}(enc:α->A Aj)(k:Ad)(f:∀x,Z (enc x)=k)(d b:A α)(c:Z b=Z d)(m:Ad)(j:Fh Obj)
  (h:w.ownsRow B e k (X (V ⟨g,0,S⟩) (Z d) a) (Z d) (d.map enc).flatten) :
  (sortWorldK enc k w g 0 m b.toArray j).ownsRow B e k (X (V ⟨g,0,S⟩) (Z d) a) (Z d) (b.map enc).flatten:=by
 rcases h.2 with ⟨h1,_⟩|⟨g',c',cur,h1,hB,h2,h3,h4,h5,h6⟩
 ·cases h1
 ·simp only[Au,Ey,Qo] at h1
  obtain⟨⟨rfl,_⟩,_,rfl⟩:=h1;refine⟨by rw[ij enc k f,c],Bf ⟨g,a,putCells id 0 (flatK enc k b.toArray) cur,rfl,hB,?_,h3,h4,by simp[putCells,h5],?_⟩⟩
  ·have i:=zO h2
   simp only[sortWorldK,grow,putRowK,putRow,mapBlock,Go.Sort.ahead];rw[Qr (by simpa using i),Sy,Az rfl,h2]
   rfl
  ·have:=ziD (flatK enc k b.toArray) cur (by simp;rw[c,h5];exact Nat.mul_le_mul_right _ h3)
   rw[zb2 enc k f b] at this;rw[<-this];simp[c]
end Go.Proofs.YtfocdefchbnkpaaGreatDoor
namespace Go.Proofs
open Go.Shelf Go.RowKit Go.Lib Go.Sort Tryz
def Tryz.sortHost_ren: Ij := ⟨fun|6 => 150|15 => 210|14 => 209|28 => 284|29 => 285|20 => 276|21 => 277|22 => 278|23 => 279|24 => 280|25 => 281|26 => 282|27 => 283|46 => 337|47 => 338|48 => 339|49 => 340|50 => 341|57 => 385|n => n, fun|22 => 86|24 => 146|25 => 266|3 => 3|39 => 220|0 => 0|53 => 152|55 => 60|4 => 4|46 => 373|45 => 372|50 => 377|5 => 5|9 => 9|66 => 408|70 => 411|76 => 437|77 => 132|n => n, fun|n => n⟩
theorem Tryz.sortHost: Go.Proofs.SlLaysF0.n6 prog Tryz.sortHost_ren := {
 mixed:=by kernel_rfl
 f6:=⟨Tryz.f150.name, by decide, func150.trans (cgk (by kernel_rfl))⟩
 f14:=⟨Tryz.f209.name, by decide, func209.trans (cgk (by kernel_rfl))⟩
 f15:=func210.trans (cgk (by kernel_rfl))
 f20:=⟨Tryz.f276.name, by decide, func276.trans (cgk (by kernel_rfl))⟩
 f21:=⟨Tryz.f277.name, by decide, func277.trans (cgk (by kernel_rfl))⟩
 f22:=⟨Tryz.f278.name, by decide, func278.trans (cgk (by kernel_rfl))⟩
 f23:=⟨Tryz.f279.name, by decide, func279.trans (cgk (by kernel_rfl))⟩
 f24:=⟨Tryz.f280.name, by decide, func280.trans (cgk (by kernel_rfl))⟩
 f25:=⟨Tryz.f281.name, by decide, func281.trans (cgk (by kernel_rfl))⟩
 f26:=⟨Tryz.f282.name, by decide, func282.trans (cgk (by kernel_rfl))⟩
 f27:=⟨Tryz.f283.name, by decide, func283.trans (cgk (by kernel_rfl))⟩
 f28:=func284.trans (cgk (by kernel_rfl))
 f29:=func285.trans (cgk (by kernel_rfl))
 f46:=⟨Tryz.f337.name, by decide, func337.trans (cgk (by kernel_rfl))⟩
 f47:=func338.trans (cgk (by kernel_rfl))
 f48:=func339.trans (cgk (by kernel_rfl))
 f49:=⟨Tryz.f340.name, by decide, func340.trans (cgk (by kernel_rfl))⟩
 f50:=⟨Tryz.f341.name, by decide, func341.trans (cgk (by kernel_rfl))⟩
 f57:=⟨Tryz.f385.name, by decide, func385.trans (cgk (by kernel_rfl))⟩
 t0:=underlying0
 a0:=isAgg0
 z0:=sizeOf0
 v0:=zeroValue0
 t3:=underlying3
 a3:=isAgg3
 z3:=sizeOf3
 v3:=zeroValue3
 t4:=underlying4
 a4:=isAgg4
 z4:=sizeOf4
 v4:=zeroValue4
 t5:=underlying5
 a5:=isAgg5
 z5:=sizeOf5
 v5:=zeroValue5
 t9:=underlying9
 a9:=isAgg9
 z9:=sizeOf9
 v9:=zeroValue9
 t22:=underlying86
 a22:=isAgg86
 z22:=sizeOf86
 v22:=zeroValue86
 t25:=underlying266
 a25:=isAgg266
 z25:=sizeOf266
 v25:=zeroValue266
 t39:=underlying220
 a39:=isAgg220
 z39:=sizeOf220
 v39:=zeroValue220
 t45:=underlying372
 a45:=isAgg372
 z45:=sizeOf372
 v45:=zeroValue372
 t46:=underlying373
 a46:=isAgg373
 z46:=sizeOf373
 v46:=zeroValue373
 t50:=underlying377
 a50:=isAgg377
 z50:=sizeOf377
 v50:=zeroValue377
 t53:=underlying152
 a53:=isAgg152
 z53:=sizeOf152
 v53:=zeroValue152
 t55:=underlying60
 a55:=isAgg60
 z55:=sizeOf60
 v55:=zeroValue60
 t66:=underlying408
 a66:=isAgg408
 z66:=sizeOf408
 v66:=zeroValue408
 t70:=underlying411
 a70:=isAgg411
 z70:=sizeOf411
 v70:=zeroValue411
 t76:=underlying437
 a76:=isAgg437
 z76:=sizeOf437
 v76:=zeroValue437
 t77:=underlying132
 a77:=isAgg132
 z77:=sizeOf132
 v77:=zeroValue132 }
def Tryz.sortRule_ren: Ij := ⟨fun|6 => 153|15 => 210|14 => 212|28 => 284|29 => 285|20 => 286|21 => 287|22 => 288|23 => 289|24 => 290|25 => 291|26 => 292|27 => 293|46 => 342|47 => 338|48 => 339|49 => 343|50 => 344|57 => 386|n => n, fun|22 => 144|24 => 213|25 => 268|3 => 3|39 => 220|0 => 0|53 => 152|55 => 60|4 => 4|46 => 373|45 => 372|50 => 377|5 => 5|9 => 9|66 => 408|70 => 411|76 => 437|77 => 132|n => n, fun|n => n⟩
theorem Tryz.sortRule: Go.Proofs.SlLaysF0.n6 prog Tryz.sortRule_ren := {
 mixed:=by kernel_rfl
 f6:=⟨Tryz.f153.name, by decide, func153.trans (cgk (by kernel_rfl))⟩
 f14:=⟨Tryz.f212.name, by decide, func212.trans (cgk (by kernel_rfl))⟩
 f15:=func210.trans (cgk (by kernel_rfl))
 f20:=⟨Tryz.f286.name, by decide, func286.trans (cgk (by kernel_rfl))⟩
 f21:=⟨Tryz.f287.name, by decide, func287.trans (cgk (by kernel_rfl))⟩
 f22:=⟨Tryz.f288.name, by decide, func288.trans (cgk (by kernel_rfl))⟩
 f23:=⟨Tryz.f289.name, by decide, func289.trans (cgk (by kernel_rfl))⟩
 f24:=⟨Tryz.f290.name, by decide, func290.trans (cgk (by kernel_rfl))⟩
 f25:=⟨Tryz.f291.name, by decide, func291.trans (cgk (by kernel_rfl))⟩
 f26:=⟨Tryz.f292.name, by decide, func292.trans (cgk (by kernel_rfl))⟩
 f27:=⟨Tryz.f293.name, by decide, func293.trans (cgk (by kernel_rfl))⟩
 f28:=func284.trans (cgk (by kernel_rfl))
 f29:=func285.trans (cgk (by kernel_rfl))
 f46:=⟨Tryz.f342.name, by decide, func342.trans (cgk (by kernel_rfl))⟩
 f47:=func338.trans (cgk (by kernel_rfl))
 f48:=func339.trans (cgk (by kernel_rfl))
 f49:=⟨Tryz.f343.name, by decide, func343.trans (cgk (by kernel_rfl))⟩
 f50:=⟨Tryz.f344.name, by decide, func344.trans (cgk (by kernel_rfl))⟩
 f57:=⟨Tryz.f386.name, by decide, func386.trans (cgk (by kernel_rfl))⟩
 t0:=underlying0
 a0:=isAgg0
 z0:=sizeOf0
 v0:=zeroValue0
 t3:=underlying3
 a3:=isAgg3
 z3:=sizeOf3
 v3:=zeroValue3
 t4:=underlying4
 a4:=isAgg4
 z4:=sizeOf4
 v4:=zeroValue4
 t5:=underlying5
 a5:=isAgg5
 z5:=sizeOf5
 v5:=zeroValue5
 t9:=underlying9
 a9:=isAgg9
 z9:=sizeOf9
 v9:=zeroValue9
 t22:=underlying144
 a22:=isAgg144
 z22:=sizeOf144
 v22:=zeroValue144
 t25:=underlying268
 a25:=isAgg268
 z25:=sizeOf268
 v25:=zeroValue268
 t39:=underlying220
 a39:=isAgg220
 z39:=sizeOf220
 v39:=zeroValue220
 t45:=underlying372
 a45:=isAgg372
 z45:=sizeOf372
 v45:=zeroValue372
 t46:=underlying373
 a46:=isAgg373
 z46:=sizeOf373
 v46:=zeroValue373
 t50:=underlying377
 a50:=isAgg377
 z50:=sizeOf377
 v50:=zeroValue377
 t53:=underlying152
 a53:=isAgg152
 z53:=sizeOf152
 v53:=zeroValue152
 t55:=underlying60
 a55:=isAgg60
 z55:=sizeOf60
 v55:=zeroValue60
 t66:=underlying408
 a66:=isAgg408
 z66:=sizeOf408
 v66:=zeroValue408
 t70:=underlying411
 a70:=isAgg411
 z70:=sizeOf411
 v70:=zeroValue411
 t76:=underlying437
 a76:=isAgg437
 z76:=sizeOf437
 v76:=zeroValue437
 t77:=underlying132
 a77:=isAgg132
 z77:=sizeOf132
 v77:=zeroValue132 }
def Tryz.bitsLen_ren: Ij := ⟨fun|125 => 210|128 => 284|129 => 285|n => n, fun|46 => 220|3 => 3|51 => 152|53 => 60|4 => 4|5 => 5|9 => 9|n => n, fun|n => n⟩
theorem Tryz.bitsLen: Go.Proofs.Lays.n125 prog Tryz.bitsLen_ren := {
 mixed:=by kernel_rfl
 f125:=func210.trans (cgk (by kernel_rfl))
 f128:=func284.trans (cgk (by kernel_rfl))
 f129:=func285.trans (cgk (by kernel_rfl))
 t3:=underlying3
 a3:=isAgg3
 z3:=sizeOf3
 v3:=zeroValue3
 t4:=underlying4
 a4:=isAgg4
 z4:=sizeOf4
 v4:=zeroValue4
 t5:=underlying5
 a5:=isAgg5
 z5:=sizeOf5
 v5:=zeroValue5
 t9:=underlying9
 a9:=isAgg9
 z9:=sizeOf9
 v9:=zeroValue9
 t46:=underlying220
 a46:=isAgg220
 z46:=sizeOf220
 v46:=zeroValue220
 t51:=underlying152
 a51:=isAgg152
 z51:=sizeOf152
 v51:=zeroValue152
 t53:=underlying60
 a53:=isAgg60
 z53:=sizeOf60
 v53:=zeroValue60 }
theorem Tryz.hlen (n : Ad) (W : Ag) (h : n ≤ 12) : Am prog 210 #[O .u64 n] W fun e w' => (∃ l : Ak, e=Af (O Ai l)) ∧ w'=W :=
  (Any.bits_Len Tryz.bitsLen n W (by omega) (by omega)).mono fun _ _ ⟨he, hw⟩ => ⟨⟨_, he⟩, hw⟩
end Go.Proofs
namespace Go.Proofs.YtfocdefchbnkpaaGreatDoor
open Go.RowKit Tryz
theorem zd0:(prog.info? 126).map (fun i=>(i.zero,i.size,i.bytes))=V (V (Fe #[O Ai 0,I ⟨#[]⟩,X S 0 0,X S 0 0,Av false,I ⟨#[]⟩,X S 0 0,X S 0 0]),8,144):=by kernel_rfl
theorem zcY:(prog.info? 119).map (fun i=>(i.zero,i.size,i.bytes))=V (V (Fe #[I ⟨#[]⟩,X S 0 0]),2,40):=by kernel_rfl
variable {w w' b:Ag}{B rb g d:Ad}
theorem zgX (h:w.grownBy w' (V rb))(a:B<=rb):B<=w.heap.size->Ms B w w':=fun hs=>
 ⟨h.os,h.tape,h.output,h.size,fun k hk=>h.block k (by omega) (by simp;omega)⟩
abbrev Fo0 (a):=Ae #[I (Aa a),X S 0 0] 119
abbrev Fo1 (a b c):=X (V ⟨b,0,S⟩) a c
abbrev Fo4 (a b c d):=Ae #[I (Aa b),X c a d] 119
theorem ziK {F:Ad}{ts:A R.Tok}{st:R.St}{H:Aj}(h:RInv w rb g F ts st H)(o:A Fp)(hH:HostsRow w B H o)(hB:B<=rb)(ca:Z o<=4000):Am prog 52 #[Al (V ⟨rb,0,S⟩)] w fun e w'=>e=Af (Cm #[])/\Ms B w w'/\∃H',RInv w' rb g F ts (Mm ts st (o.map R.Hst.name)).2 H'/\HostsRow w' B H' (o++[(Mm ts st (o.map R.Hst.name)).1]):=by
 obtain⟨i0,hi,bW,bX,bY⟩:=Ej zd0;obtain⟨i1,hj,bS,bT,bU⟩:=Ej zcY;have HP:Y (Mm ts st (o.map R.Hst.name)=R.hsB ts (R.hsA ts st (o.map R.Hst.name))):=rfl;have al:Y (R.hsA ts st (o.map R.Hst.name)=R.hsA2 ts (Cw (Cg ts st Hy) (decide ((Z (o.map R.Hst.name):Ak)<4)) 3 (Bj ts st).at_) (o.map R.Hst.name)):=rfl;rw[Bv] at al;have HH:=J hH;obtain⟨aR,av,aT⟩:=hH;have E:=J av;have aB:=J aT;obtain⟨ha,hc,rfl⟩:=zL av;have H0:=J h;have b4:=zO h.rd;have b9:=h.gl;generalize Mm ts st (o.map R.Hst.name)=r at*;go_in;have C0:Y (w.grownBy w (V rb)):=zP _ _;go_wp2_with fail;refine(qv H0.o _).mono ?_;rintro e w1 ⟨rfl,I1,aX⟩;have J1:=J I1;have b1:=zO J1.o.rd;have G1:=J (aX);have C1:=J (zD C0.o G1.o);have c5:=cbi 5 J1.o.rd;go_wp2
 go_cut [] from 11 to 19 (fun wx=>Y (RInv wx rb g F ts (Cw (Cg ts st Hy) (decide ((Z o:Ak)<4)) 3 (Bj ts st).at_) (X ha (Z o) hc))/\Y (w.grownBy wx (V rb)))
 ·
  go_region_with (go_at_call 85;refine(j4 ((J1.o.keep (Ac _ _ _)).keep (zV _)) _ _ _ _ _).mono ?_;rintro e w2 ⟨rfl,I2,aY⟩)
  all_goals
   have J2:=J I2;have C2:Y (w.grownBy w2 (V rb)):=zD C1.o (zD (Ac _ _ _) (zD (zT (zV _) _) aY));go_wp2_with fail
   go_meet
   ·exact⟨J2,C2⟩
 ·
  obtain⟨J2,C2⟩:=hcut;generalize Cw (Cg ts st Hy) (decide ((Z o:Ak)<4)) 3 (Bj ts st).at_=s2 at*;have aA:Y (R.hsA2 ts s2 (o.map R.Hst.name)=(R.lower (Bj ts s2).s,Ip (o.map R.Hst.name) (R.lower (Bj ts s2).s) (Bj ts s2).at_ (Cw (R.kindS ts s2 34) (R.named (Bj ts s2).s true) 4 (Bj ts s2).at_))):=rfl;have aJ:=J (J2.o.curlen);have bC:Y ((Aa (Bj ts s2).s).size<=Bh):=by have:=aJ.o;show _<=_;unfold Bh;omega
  have bB:Y ((Aa (Bj ts s2).s).size<=100000):=by have:=aJ.o;show _<=_;omega
  go_wp2_with fail;refine(kO J2.o 34 (by decide) (by decide)).mono ?_;rintro e be ⟨rfl,aK,a0⟩;have aO:=J aK;have b2:=zO aO.o.rd;have bk:=J (a0);have bg:=J (zD C2.o bk.o);go_wp2_with fail;refine(sO _ _ _ bC.o).mono ?_;rintro e wX ⟨rfl,ba⟩;rw[ba];rw[Be];go_wp2_with fail;refine(j4 (aO.o.keep (Ac _ _ _)) _ _ _ _ _).mono ?_;rintro e bf ⟨rfl,aL,au⟩;have bF:=J aL;have bl:Y (be.grownBy bf (V rb)):=(zD (Ac _ _ _) au);have bh:=J (zD bg.o bl.o);have aQ:Y (bf.heap[be.heap.size]?=V (Ae #[O .u8 (Bj ts s2).k,I (Aa (Bj ts s2).s),O Ai (Bj ts s2).at_] 115)):=ql au (by simp;omega);have ci:=cbi 1 aQ.o;go_wp2_with fail;refine(uV _ _ bB.o).mono ?_;rintro e p ⟨rfl,aV⟩;have aq:=zt aV;have a1:=zT aq (V rb);have aP:Y _:=(bF.o).keep aq;have b3:=zO aP.o.rd;have ay:=J (a1);have aw:=J (zD bh.o ay.o);have cr:=aw.o.size;have bM:=J (zE aQ.o ay.o (by simp;omega));rw[Be];generalize Cw (R.kindS ts s2 34) (R.named (Bj ts s2).s true) 4 (Bj ts s2).at_=s4 at*;generalize R.lower (Bj ts s2).s=lo at*;generalize Bj ts s2=t at*;go_wp2_with fail;have bG:Y _:=aP.o.keep (Ac p (Fo0 lo) S);have bi:Y (w.grownBy (Eo p (Fo0 lo)) (V rb)):=zD aw.o (Ac p (Fo0 lo) _);have bN:=J (zE bM.o (Ac p (Fo0 lo) S) (by simp));have bq:Y ((Eo p (Fo0 lo)).heap[p.heap.size]?=V (Fo0 lo)):=Bn _ _;have cn:p.heap.size+1<=(Eo p (Fo0 lo)).heap.size:=by simp
  have co:(Eo p (Fo0 lo)).heap.size<=p.heap.size+1:=by simp
  generalize(Eo p (Fo0 lo))=wk4 at*
  go_loopw [6] (fun iv wr=>∃k:Ad,k<=Z o/\iv=O Ai k/\Y (RInv wr rb g F ts (Ip ((o.map R.Hst.name).take k) lo t.at_ s4) (X ha (Z o) hc))/\Y (wk4.grownBy wr (V rb))) (fun iv _=>Z o-(intOf iv).toNat)
  ·exact⟨0,Ax _,rfl,bG,zP _ _⟩
  ·
   obtain⟨k,hk,rfl,IR,HR⟩:=hrel;have d5:=cbi 5 IR.o.rd;have CR:=J (zD bi.o HR.o);have aD:Y _:=zE bq.o HR.o (by simp;omega)
   by_cases a6:k<Z o
   ·obtain⟨gh,gc,a4,_,_⟩:=Bm E.o (by omega)
    simp only[Au] at a4;obtain⟨rfl,_,rfl⟩:=a4;have c1:wr.cell? ⟨gh,k*2,S⟩=V (I (Aa o[k].name)):=by
     have aW:=Ap E.o (k*2) (by omega);rw[wV aB.o k a6] at aW;exact CR.o.cell aW (by simpa using zI H0.o.rd E.o (by decide) gh rfl)
    have n3:=zE bN.o HR.o (by simp;omega);have ce:=cbi 0 n3;have cf:=cbi 1 n3;have cg:=cbi 2 n3;have ch:=cbi 0 aD.o;have hq:((Aa o[k].name).toList == (Aa lo).toList)=decide (o[k].name=lo):=by
     rw[toLs,ByteArray.toList_eq,Be]
    have HA:Y (Ip ((o.map R.Hst.name).take (k+1)) lo t.at_ s4=Cw (Ip ((o.map R.Hst.name).take k) lo t.at_ s4) (!decide (o[k].name=lo)) 5 t.at_):=by
     show Ip _ _ _ _=_;unfold Ip;rw[Co (by rw[Bv];exact a6),Mb,Ha,<-Qu];rfl
    generalize decide (o[k].name=lo)=bb at*;generalize Aa o[k].name=lk at*;generalize Ip ((o.map R.Hst.name).take k) lo t.at_ s4=stk at*;go_wp2
    go_region_with (go_at_call 85;refine(j4 (IR.o.keep (zV wr)) _ _ _ _ _).mono ?_;rintro e wN ⟨rfl,IN,aZ⟩)
    all_goals
     have JN:Y (RInv wN rb g F ts (Ip ((o.map R.Hst.name).take (k+1)) lo t.at_ s4) (Fo1 (Z o) gh hc)):=by rw[HA.o];exact IN
     have GN:Y (wk4.grownBy wN (V rb)):=zD HR.o (zD (zT (zV wr) _) aZ);go_wp2;exact⟨⟨k+1,by omega,by go_num,JN,GN⟩,by simp[intOf];omega⟩
   ·rw[Cc (by rw[Bv];omega)] at IR
    have aF:Y (r=R.hsB ts (lo,Ip (o.map R.Hst.name) lo t.at_ s4)):=by rw[<-aA.o,<-al.o];exact HP.o
    generalize Ip (o.map R.Hst.name) lo t.at_ s4=sA at*;go_wp2_with fail;refine(qv IR.o _).mono ?_;rintro e cq ⟨rfl,aN,a5⟩;have bH:=J aN;have az:=J (a5);have bj:=J (zD CR.o az.o);have br:=J (zE aD.o az.o (by simp;omega));have JB:=J (bH);have an:Y (r=(⟨lo,(Nd ts (Z ts+1) (Cg ts sA [123]) []).1⟩,Cg ts (Nd ts (Z ts+1) (Cg ts sA [123]) []).2 [125])):=aF.o;generalize Cg ts sA [123]=sB at*;generalize hq:Nd ts (Z ts+1) sB []=q at*;have HQ:=J hq;go_wp2_with fail
    go_loopw [7] (fun iv wz=>∃(n:Ad) (d:A Gn) (s:R.St) (vR:Aj),iv=O Ai (Z d)/\(Z d)<=s.K/\s.K<Z ts/\(Z ts)<n+s.K/\Y (Nd ts n s d=q)/\Y (RInv wz rb g F ts s (X ha (Z o) hc))/\Y (w.grownBy wz (V rb))/\Y (wz.heap[p.heap.size]?=V (Ae #[I (Aa lo),vR] 119))/\Y (RulesRowB wz w.heap.size vR d)) (fun iv _=>Z ts+1-(intOf iv).toNat)
    ·exact⟨Z ts+1,[],sB,_,rfl,Ax _,JB.o.lt,by omega,HQ.o,JB,bj,br,⟨[],Bk _ _ _ _,.nil⟩⟩
    ·
     obtain⟨n,d,s,vR,rfl,b8,b7,hn,HL,ae,bz,bo,aG⟩:=hrel;have cb:=ae.o.ok.len;obtain⟨n,rfl⟩:∃m,n=m+1:=⟨n-1,by omega⟩;have z:=HL.o;rw[Nd] at z;have aI:=J (aG.o);obtain⟨N,Q,rfl⟩:=zL aI.o.choose_spec.1;have bs:=J bo.o;go_wp2_with fail;refine(uC ae.o _).mono ?_;rintro e cp ⟨rfl,ar⟩;have a2:=zT ar (V rb);have af:Y _:=(ae.o).keep ar;have aj:=J (a2);have ax:=J (zD bz.o aj.o);have y:=J (zE bs.o aj.o (by simp;omega));have ag:Y _:=RulesRowB.keep aG.o aj.o (xQ ae.o.rd (by decide));rw[show(⟨#[114,117,108,101]⟩:As).data.toList=qz from rfl]
     cases hgo:R.isB s (Bj ts s) qz
     ·rw[Aw (by rw[hgo];simp)] at z
      have bt:Y (q.1=d):=by rw[<-z];rfl
      have bu:Y (q.2=s):=by rw[<-z];rfl
      rw[bt.o,bu.o] at an;go_wp2_with fail;refine(qv af.o _).mono ?_;rintro e l ⟨rfl,aM,a3⟩;have ao:=J aM;have b5:=zO ao.o.rd;have ak:=J (a3);have ai:=J (zD ax.o ak.o);have aE:=J (zE y.o ak.o (by simp;omega));have bI:Y _:=RulesRowB.keep ag.o ak.o (xQ af.o.rd (by decide));have e5:=cbi 5 ao.o.rd;have bZ:=cbi 0 aE.o;have b0:=cbi 1 aE.o;go_wp2;have bc:=zJ E.o ai.o (zI H0.o.rd E.o (by decide));have bE:=J (aB.o.map fun a b hab=>hab.keep ai.o (xQ H0.o.rd (by decide)));have gD:l.grownBy (l.alloc (Fo4 (Z d) lo N Q)).drew S:=zD (Ac _ _ _) (zV _);have v:Y ((l.alloc (Fo4 (Z d) lo N Q)).drew.ownsRow B 119 2 (X ha (Z o) hc) (Z o) aR.flatten):=bc.alloc _;have bx:Y (∀j u,[I (Aa lo),X N (Z d) Q][j]?=V u->(l.alloc (Fo4 (Z d) lo N Q)).drew.cell? ((⟨l.heap.size,0,S⟩:Addr).add j)=V u):=zZ l #[_,_] _ _ rfl;have bm:Y (∀u∈[I (Aa lo),X N (Z d) Q],u.oneCell'=true):=by intro u hu;simp at hu;rcases hu with rfl|rfl <;> rfl
      have bw:Y (Z o+1<=Bh):=by show _<=_;unfold Bh;omega
      have aC:Y (B<=(l.alloc (Fo4 (Z d) lo N Q)).drew.heap.size):=by show _<=_;rw[show(l.alloc (Fo4 (Z d) lo N Q)).drew.heap.size=l.heap.size+1 from by simp];omega
      have bD:Y ((l.alloc (Fo4 (Z d) lo N Q)).drew.heap.size=l.heap.size+1):=by show _=_;simp
      have JD:Y _:=ao.o.keep gD;have am:=J gD
      go_region_law (refine step_append_lies _ rfl (.tmp 79) (.tmp 81) 67 rfl B 119 i1 _ 2 40 underlying67 hj bS bT bU rfl (by decide) _ _ _ (by simp[Im]) v.o ⟨l.heap.size,0,S⟩ 1 1 [I (Aa lo),X N (Z d) Q] (by simp[Im]) rfl bx.o bm.o (by decide) bw.o (by omega) aC.o (l.heap.size+1) bD.o ?_;intro g9 x w9 C f bQ bV;have K9:Y (RInv w9 rb g F ts _ (X ha (Z o) hc)):=JD.o.away f (fun k hk=>⟨zI JD.o.rd v.o (by decide) k hk,fun c=>by obtain⟨b6,bR,_⟩:=JD.o.tk;exact zI bR v.o (by decide) k hk c⟩);have cc:=cbi 5 K9.o.rd;have cd:=zm9 5 K9.o.rd)
      all_goals
       go_end0
       have gF:=zF w9 rb 5 (X (V ⟨g9,0,S⟩) (Z o+1) x);have sF:Safe w9 (V rb) htags:=xQ K9.o.rd (by decide);have sG:Safe (l.alloc (Fo4 (Z d) lo N Q)).drew (X ha (Z o) hc).ownBlock rtags:=xk v.o (by decide);have bd:Safe w9 (V rb) rtags:=xQ K9.o.rd (by decide);refine⟨rfl,?_,X (V ⟨g9,0,S⟩) (Z o+1) x,?_,?_⟩
       ·exact(((zgX ai.o hB (by omega)).grown am.o (by omega) (fun k hk=>by cases hk)).grown f aC.o (fun k hk=>(An v.o k hk).1)).setCell hB _
       ·rw[an.o];exact K9.o.put gF (zH K9.o.rd _) K9.o.lt
       ·rw[an.o]
        refine⟨aR++[[I (Aa lo),X N (Z d) Q]],?_,?_⟩
        ·rw[Ah,Eg]
         exact x7 C gF sF (by decide)
        ·refine All2.snoc (bE.o.map fun a b hab=>((hab.keep am.o (za _ _)).keep f sG).keep gF bd) ⟨_,rfl,?_⟩
         exact RulesRow.keep (RulesRow.keep (RulesRow.keep (RulesRowB.zero bI.o) am.o (za _ _)) f sG) gF bd
     ·rw[Az (by rw[hgo])] at z
      have bO:=R.ruleS_K ts s (Z d) (d.map R.Rl.number) hgo;have bZ:=cbi 0 y.o;have b0:=cbi 1 y.o;have bA:Y ((X N (Z d) Q).ownBlock≠V rb):=by
       obtain⟨aS,h2,_⟩:=ag.o;exact fun c=>by have:=(An h2 rb c).1;omega
      go_wp2_with fail;refine(ziP af.o (Z d) (X N (Z d) Q) d (RulesRowB.zero ag.o) (by omega) bA.o).mono ?_;rintro e wU ⟨cs,rfl,IU,ah,bP⟩;obtain⟨vM,vT,vS,vD,rfl,hM,hT,hS,hD⟩:=bP;obtain⟨m1,m2,rfl⟩:=zL hM;obtain⟨t1,t2,rfl⟩:=zL hT;obtain⟨x1,x2,rfl⟩:=zL hS;obtain⟨d1,d2,rfl⟩:=zL hD;have aH:Y (RuleVal wU _ _):=⟨_,_,_,_,rfl,hM,hT,hS,hD⟩;generalize R.ruleS ts s (Z d) (d.map R.Rl.number)=pr at*;obtain⟨i,sR⟩:=pr;simp only at z bO IU aH;have bv:=J z;have JU:=J IU;have CU:=J (zD ax.o ah);have zU:=CU.o.size;have bL:Y _:=RulesRowB.keep ag.o ah (xQ af.o.rd (by decide));have ab:=J (zE y.o ah (by simp;omega));have cm:=zO ab.o;have cl:=cbi 1 ab.o;obtain⟨aS,a7,aU⟩:=bL.o;have ad:=J a7;have bn:=J aU;go_wp2_with (at_builtin;refine Ei _ rfl _ _ 117 rfl (w.heap.size) 126 i0 _ 8 144 underlying117 hi bW bX bY rfl (by decide) _ _ _ rfl (Ao (Ao ad.o _) _) ⟨wU.heap.size+1,0,S⟩ 1 1 [O Ai i.number,I (Aa i.path),X m1 (Z i.ms) m2,X t1 (Z i.tg) t2,Av i.change,I (Aa i.to),X x1 (Z i.sets) x2,X d1 (Z i.drops) d2] rfl rfl ?c1 ?c2 (by decide) ?c3 ?c4 ?c5 (wU.heap.size+2) (by simp) ?_)
      ·exact zZ _ #[_,_,_,_,_,_,_,_] _ _ (by simp)
      ·intro u hu;simp at hu;rcases hu with rfl|rfl|rfl|rfl|rfl|rfl|rfl|rfl <;> rfl
      ·unfold Bh;omega
      ·omega
      ·simp;omega
      intro g9 x w9 C f bQ bV;have a8:=C;have gA:wU.grownBy ((wU.alloc (Ae #[O Ai i.number,I (Aa i.path),X m1 (Z i.ms) m2,X t1 (Z i.tg) t2,Av i.change,I (Aa i.to),X x1 (Z i.sets) x2,X d1 (Z i.drops) d2] 126)).alloc (Ae #[O Ai i.number,I (Aa i.path),X m1 (Z i.ms) m2,X t1 (Z i.tg) t2,Av i.change,I (Aa i.to),X x1 (Z i.sets) x2,X d1 (Z i.drops) d2] 126)) S:=zD (Ac _ _ _) (Ac _ _ _);have a9:Safe ((wU.alloc (Ae #[O Ai i.number,I (Aa i.path),X m1 (Z i.ms) m2,X t1 (Z i.tg) t2,Av i.change,I (Aa i.to),X x1 (Z i.sets) x2,X d1 (Z i.drops) d2] 126)).alloc (Ae #[O Ai i.number,I (Aa i.path),X m1 (Z i.ms) m2,X t1 (Z i.tg) t2,Av i.change,I (Aa i.to),X x1 (Z i.sets) x2,X d1 (Z i.drops) d2] 126)) (X N (Z d) Q).ownBlock leaves:=xk (Ao (Ao ad.o _) _) (by decide);have bJ:Y (RulesRowB w9 w.heap.size (X (V ⟨g9,0,S⟩) (Z d+1) x) (d++[i])):=by
       refine⟨aS++[[O Ai i.number,I (Aa i.path),X m1 (Z i.ms) m2,X t1 (Z i.tg) t2,Av i.change,I (Aa i.to),X x1 (Z i.sets) x2,X d1 (Z i.drops) d2]],?_,?_⟩
       ·rw[Ah,Eg];exact a8
       ·exact(bn.o.snoc aH.o).map fun a b hab=>(hab.keep gA (za _ _)).keep f a9
      have ap:∀k,(X N (Z d) Q).ownBlock=V k->w.heap.size<=k:=fun k hk=>(An ad.o k hk).1
      have J9:Y (RInv w9 rb g F ts sR (X ha (Z o) hc)):=(JU.o.keep gA).away f (fun k hk=>by have h1:=ap k hk;exact⟨by omega,by omega⟩);have C9:Y (w.grownBy w9 (V rb)):=qI (zD CU.o (zT gA _)) f ap;have aa:=J (zw (zE ab.o gA (by simp)) f (fun k hk=>zI ab.o ad.o (by decide) k hk));have cj:=cbi 1 aa.o;have ck:=zm9 1 aa.o;have gS:=zF w9 p.heap.size 1 (X (V ⟨g9,0,S⟩) (Z d+1) x);have JS:Y _:=J9.o.other gS (by omega) (by omega);have CS:=J (ze C9.o gS (by omega));have bp:Y ((w9.setCell ⟨p.heap.size,1,S⟩ (X (V ⟨g9,0,S⟩) (Z d+1) x)).heap[p.heap.size]?=V (Ae #[I (Aa lo),X (V ⟨g9,0,S⟩) (Z d+1) x] 119)):=zH aa.o _;have bK:Y _:=RulesRowB.keep bJ.o gS (xQ aa.o (by decide));go_wp2
      go_roundw
      ·exact⟨n,d++[i],sR,_,by rw[Ah];go_num,by rw[Ah];simp;omega,JS.o.lt,by omega,bv,JS,CS,bp,bK⟩
      ·simp[intOf];omega
theorem zhH:(prog.info? 126).map (fun i=>(i.zero,i.size,i.bytes))=V (V (Fe #[O Ai 0,I ⟨#[]⟩,X S 0 0,X S 0 0,Av false,I ⟨#[]⟩,X S 0 0,X S 0 0]),8,144):=by kernel_rfl
theorem x3 (w:Ag)(n:Ad):w.grownBy (w.drewN n) S:=by
 induction n with
 |zero=>exact zP _ _
 |succ n ih=>exact zD ih (zV _)
theorem xz (h:Ms w.heap.size w w'):w.grownBy w' S:=zt h
def sy (r:Gn)(out:A Gn):Ad:=Z (out.takeWhile fun o=>decide (o.number<r.number))
def fL (out:A Gn)(r:Gn):A Gn:=out.take (sy r out)++[r]++out.drop (sy r out)
def zf (l:A Gn):A Gn:=l.foldl fL []
variable {α β:Type}
theorem ku (p:α->Bool)(l:A α)(k:Ad)(b:k<=Z l)(d:∀j (g:j<k),p (l[j]'(by omega))=true)(f:∀(h:k<Z l),p l[k]=false):Z (l.takeWhile p)=k:=by
 induction l generalizing k with
 |nil=>simp at b;subst b;rfl
 |cons a l ih=>
  match k with
  |0=>
   have:=f (by simp);simp at this;rw[Sf,this];rfl
  |k+1=>
   have c:=d 0 (by omega);simp at c;rw[Sf,c,Az rfl,Bb,ih k (by simpa using b) (fun j g=>by have:=d (j+1) (by omega);simpa using this) (fun h=>by have:=f (by simpa using h);simpa using this)]
theorem zkD (out:A Gn)(r:Gn):Z (fL out r)=Z out+1:=by grind[fL,Gn]
theorem oq (l:A Gn)(r:Gn):zf (l++[r])=fL (zf l) r:=by grind[zf,Gn,fL]
theorem bD (l:A Gn):Z (zf l)=Z l:=by
 unfold zf;have:∀(l out:A Gn),Z (l.foldl fL out)=Z out+Z l:=by
  intro l
  induction l with
  |nil=>intro out;rfl
  |cons a l ih=>intro out;rw[Nu,ih,zkD];simp;omega
 rw[this];simp
variable {m:A β}
theorem All2.len {P:α->β->Prop}{l:A α}(h:All2 P l m):Z l=Z m:=by
 induction h <;> grind[All2]
variable {a:A (A Aj)}
theorem qL {d:A Gn}(h:All2 (RuleVal w) a d)(k j:Ad)(b:k<Z d)(f:j<8):a.flatten[k*8+j]?=(a[k]'(by rw[All2.len h];exact b))[j]?:=by
 induction h generalizing k with
 |nil=>simp at b
 | @cons c r cs d hc _ ih=>
  have e:Z c=8:=by obtain⟨i,m,l,g,rfl,_⟩:=hc;rfl
  match k with
  |0=>rw[Ci,Cx (by omega)];simp
  |k+1=>
   rw[Ci,Cl (by omega),e,show(k+1)*8+j-8=k*8+j by omega,ih k (by simpa using b)];simp
theorem uA {e:Cs}{a:Addr}{n b:Ad}{f:A Aj}(h:w.ownsRow B e d (X (V a) n b) n f):n<=b/\b<=Bh:=by
 rcases h.2 with ⟨h1,_⟩|⟨g,c,cur,h1,_,_,h2,h3,_⟩
 ·cases h1
 grind
theorem All2.take {P:α->β->Prop}{l:A α}(h:All2 P l m)(k:Ad):All2 P (l.take k) (m.take k):=by
 induction h generalizing k with
 |nil=>simp;exact .nil
 |cons h _ ih=>
  match k with
  |0=>simp;exact .nil
  |k+1=>exact .cons h (ih k)
theorem All2.drop {P:α->β->Prop}{l:A α}(h:All2 P l m)(k:Ad):All2 P (l.drop k) (m.drop k):=by
 induction h generalizing k with
 |nil=>simp;exact .nil
 |cons h t ih=>
  match k with
  |0=>exact .cons h t
  |k+1=>exact ih k
theorem All2.append {P:α->β->Prop}{l a:A α}{b:A β}(h:All2 P l m)(c:All2 P a b):All2 P (l++a) (m++b):=by
 induction h <;> grind[All2]
theorem All2.get {P:α->β->Prop}{l:A α}(h:All2 P l m)(k:Ad)(a:k<Z l)(b:k<Z m):P l[k] m[k]:=by
 induction h generalizing k <;> grind[All2]
theorem fq {a:A Aj}{r:Gn}(h:RuleVal w a r):∀u∈a,u.oneCell'=true:=by
 obtain⟨j,l,k,i,rfl,c,d,f,g⟩:=h;obtain⟨_,_,rfl⟩:=zL c;obtain⟨_,_,rfl⟩:=zL d;obtain⟨_,_,rfl⟩:=zL f;obtain⟨_,_,rfl⟩:=zL g;intro u b;simp at b;rcases b with rfl|rfl|rfl|rfl|rfl|rfl|rfl|rfl <;> rfl
theorem dm {b:A Gn}(h:All2 (RuleVal w) a b):∀u∈a.flatten,u.oneCell'=true:=by
 induction h <;> grind[List.flatten_cons,fq,Gn,All2,RuleVal]
theorem oj {a:A Aj}{r:Gn}(h:RuleVal w a r):Z a=8:=by
 obtain⟨c,f,d,b,rfl,_⟩:=h;rfl
theorem dQ {b:A Gn}(h:All2 (RuleVal w) a b)(k:Ad):(a.take k).flatten=a.flatten.take (k*8):=by
 induction h generalizing k with
 |nil=>simp
 | @cons c r cs b h _ ih=>
  match k with
  |0=>simp
  |k+1=>
   have e:=oj h;rw[Fk,Ci,Ci,ih k,List.take_append,e,Cc (l:=c) (by omega),show(k+1)*8-8=k*8 by omega]
theorem dP {b:A Gn}(h:All2 (RuleVal w) a b)(k:Ad):(a.drop k).flatten=a.flatten.drop (k*8):=by
 induction h generalizing k with
 |nil=>simp
 | @cons c r cs b h _ ih=>
  match k with
  |0=>simp
  |k+1=>
   have e:=oj h;rw[In,Ci,ih k,List.drop_append,e,Ga (l:=c) (by omega),show(k+1)*8-8=k*8 by omega];rfl
theorem zc0 (v:Aj)(d:A Gn)(hv:RulesRow w v d)(hn:Z d<=4000):Am prog 53 #[v] w fun e w'=>∃v',e=Af v'/\Ms w.heap.size w w'/\RulesRow w' v' (zf d):=by
 obtain⟨i0,hi,ak,al,am⟩:=Ej zhH;obtain⟨ar,aM,aN⟩:=hv;obtain⟨la,lc,rfl⟩:=zL aM;have n:=J aM;have g:=J aN;go_in;go_wp2
 go_loopw [3,4] (fun v iv wr=>∃(i:Ad) (cs:A (A Aj)),i<=Z d/\iv=O Ai i/\Y (wr.ownsRow w.heap.size 126 8 v i cs.flatten)/\Y (All2 (RuleVal wr) cs (zf (d.take i)))/\Y (Ms w.heap.size w wr)) (fun _ iv _=>Z d-(intOf iv).toNat)
 case atStart=>exact⟨0,[],Ax _,rfl,Bk _ _ _ _,.nil,Vw _ _⟩
 case round=>
  obtain⟨i,cs,ba,rfl,HO,HA,HB⟩:=hrel;have aT:Z (zf (d.take i))=i:=by rw[bD,Cq];omega
  have a9:Z cs=i:=by rw[HA.o.len,aT]
  obtain⟨oa,f,rfl⟩:=zL HO.o;have a8:=HB.o.size
  by_cases q:i<Z d
  ·obtain⟨t,gc,aR,_,aZ⟩:=Bm n.o (by omega)
   simp only[Au] at aR;obtain⟨rfl,_,rfl⟩:=aR;have c1:wr.cell? ⟨t,i*8,S⟩=V (O Ai d[i].number):=by
    have aF:=Ap n.o (i*8) (by omega);rw[uu g.o i q] at aF;rw[HB.o.cell (p:=⟨t,i*8,S⟩) aZ];exact aF
   have HS:Y (zf (d.take (i+1))=fL (zf (d.take i)) d[i]):=by
    show zf _=_;rw[Co q,oq]
   generalize zf (d.take i)=out at*;obtain⟨wo,a7⟩:∃x,x=wr:=⟨wr,rfl⟩;subst a7;go_wp2
   go_loopw [5] (fun kv wz=>∃k:Ad,k<=i/\kv=O Ai k/\Y (∀j (hj:j<k) (ho:j<Z out),out[j].number<d[i].number)/\Y (wo.grownBy wz S)) (fun kv _=>i-(intOf kv).toNat)
   case atStart=>exact⟨0,Ax _,rfl,fun j hj=>absurd hj (by omega),zP _ _⟩
   case round=>
    obtain⟨k,a0,rfl,HK,HZ⟩:=hrel;have d1:wr.cell? ⟨t,i*8,S⟩=V (O Ai d[i].number):=by
     exact HZ.o.cell c1 (by simp)
    have aC:Y _:=zJ HO.o (zT HZ.o (V wr.heap.size)) (fun k hk=>by have h1:=(An HO.o k hk).2;have h2:=HZ.o.size;omega);have aI:Y (All2 (RuleVal wr) cs out):=HA.o.map fun a b hab=>hab.keep HZ.o (za _ _)
    have aK:=J (HB.o.trans ((qh HZ.o).mono a8));have zz:=HZ.o.size
    by_cases hk:k<i
    ·obtain⟨go,aX,aQ,_,_⟩:=Bm aC.o (by omega)
     simp only[Au] at aQ;obtain⟨rfl,_,rfl⟩:=aQ;have bb:(k:Ak)<i:=by omega
     have d2:wr.cell? ⟨go,k*8,S⟩=V (O Ai out[k].number):=by
      have aF:=Ap aC.o (k*8) (by omega);rw[uu aI.o k (by omega)] at aF;exact aF
     by_cases aS:out[k].number<d[i].number
     ·have aW:Y (∀j (hj:j<k+1) (ho:j<Z out),out[j].number<d[i].number):=by
       intro j hj ho
       by_cases e:j=k
       ·subst e;exact aS
       ·exact HK.o j (by omega) ho
      generalize bd:out[k].number=ok at*;generalize be:d[i].number=ri at*;go_wp2_with fail;go_quiet (fail);go_wp2;exact⟨⟨k+1,by omega,by go_num,aW,zD HZ.o (x3 _ _)⟩,by simp[intOf];omega⟩
     ·have aJ:Y (sy d[i] out=k):=ku _ _ _ (by omega) (fun j hj=>Cf (HK.o j hj (by omega))) (fun _=>Ce aS)
      go_wp2_with fail;go_quiet (fail);have ai:Y _:=x3 wr nq;have C:Y _:=zK aC.o ai.o (fun k hk c=>by cases c);have ab:Y (All2 (RuleVal (wr.drewN nq)) cs out):=aI.o.map fun a b hab=>hab.keep ai.o (za _ _)
      have aa:=J (aK.o.trans ((qh ai.o).mono (by omega)));generalize wr.drewN nq=wq at*;obtain⟨vM,vT,vS,vD,m,hM,hT,ae,hD⟩:=All2.get g.o i (by rw[g.o.len];exact q) q;obtain⟨N,Q,rfl⟩:=zL hM;obtain⟨t1,t2,rfl⟩:=zL hT;obtain⟨x1,x2,rfl⟩:=zL ae;obtain⟨F,H,rfl⟩:=zL hD;have ah:Y (RuleVal w [O Ai d[i].number,I (Aa d[i].path),X N d[i].ms.length Q,X t1 d[i].tg.length t2,Av d[i].change,I (Aa d[i].to),X x1 d[i].sets.length x2,X F d[i].drops.length H] d[i]):=⟨_,_,_,_,rfl,hM,hT,ae,hD⟩;have r:=xz aa.o;have zq:=aa.o.size;have H0:Y (wq.cell? ⟨t,i*8,S⟩=V (O Ai d[i].number)):=by
       refine r.cell (a:=⟨t,i*8,S⟩) ?_ (by simp);rw[Ap n.o (i*8) (by omega),show ar.flatten[i*8]?=ar.flatten[i*8+0]? from rfl,qL g.o i 0 q (by omega),m];rfl
      have H1:Y (wq.cell? ⟨t,i*8+1,S⟩=V (I (Aa d[i].path))):=by
       refine r.cell (a:=⟨t,i*8+1,S⟩) ?_ (by simp);rw[Ap n.o (i*8+1) (by omega),qL g.o i 1 q (by omega),m];rfl
      have H2:Y (wq.cell? ⟨t,i*8+2,S⟩=V (X N d[i].ms.length Q)):=by
       refine r.cell (a:=⟨t,i*8+2,S⟩) ?_ (by simp);rw[Ap n.o (i*8+2) (by omega),qL g.o i 2 q (by omega),m];rfl
      have H3:Y (wq.cell? ⟨t,i*8+3,S⟩=V (X t1 d[i].tg.length t2)):=by
       refine r.cell (a:=⟨t,i*8+3,S⟩) ?_ (by simp);rw[Ap n.o (i*8+3) (by omega),qL g.o i 3 q (by omega),m];rfl
      have H4:Y (wq.cell? ⟨t,i*8+4,S⟩=V (Av d[i].change)):=by
       refine r.cell (a:=⟨t,i*8+4,S⟩) ?_ (by simp);rw[Ap n.o (i*8+4) (by omega),qL g.o i 4 q (by omega),m];rfl
      have H5:Y (wq.cell? ⟨t,i*8+5,S⟩=V (I (Aa d[i].to))):=by
       refine r.cell (a:=⟨t,i*8+5,S⟩) ?_ (by simp);rw[Ap n.o (i*8+5) (by omega),qL g.o i 5 q (by omega),m];rfl
      have H6:Y (wq.cell? ⟨t,i*8+6,S⟩=V (X x1 d[i].sets.length x2)):=by
       refine r.cell (a:=⟨t,i*8+6,S⟩) ?_ (by simp);rw[Ap n.o (i*8+6) (by omega),qL g.o i 6 q (by omega),m];rfl
      have H7:Y (wq.cell? ⟨t,i*8+7,S⟩=V (X F d[i].drops.length H)):=by
       refine r.cell (a:=⟨t,i*8+7,S⟩) ?_ (by simp);rw[Ap n.o (i*8+7) (by omega),qL g.o i 7 q (by omega),m];rfl
      have aA:Y (RuleVal wq [O Ai d[i].number,I (Aa d[i].path),X N d[i].ms.length Q,X t1 d[i].tg.length t2,Av d[i].change,I (Aa d[i].to),X x1 d[i].sets.length x2,X F d[i].drops.length H] d[i]):=ah.o.keep (xz aa.o) (za _ _);have HW:Y (∀j u,(cs.flatten)[j]?=V u->wq.cell? ⟨go,j,S⟩=V u):=by
       intro j u B;have ad:=(Bo.1 B).1;rw[C.o.1] at ad;rw[Ap C.o j ad];exact B
      have au:=uA C.o;unfold Bh at au;obtain⟨aO,aP⟩:=au;have an:=J (C.o.1);have aB:=J (dm ab.o);go_wp2_with (at_builtin;refine Cu _ rfl _ _ 117 rfl (wq.heap.size) 126 i0 _ 8 144 underlying117 hi ak al am rfl (by decide) _ _ _ rfl (Bk _ _ _ _) ⟨go,0,S⟩ k f (cs.flatten.take (k*8)) rfl ?a1 ?a2 ?a3 ?a4 ?a5 ?a6 ?_)
      case a1=>rw[Cq,an.o];omega
      case a2=>
       intro j u B;rw[uk];rw[Gi] at B
       split at B
       ·exact HW.o j u B
       ·cases B
      case a3=>exact fun u B=>aB.o u (Oi B)
      case a4=>unfold Bh;omega
      case a5=>omega
      case a6=>exact Aq _
      intro v1 w1 E s _;obtain⟨aG,aH,rfl⟩:=zL E;have g1:wq.grownBy w1 S:=s;have af:=J E;have aD:Y _:=zK C.o s (fun k hk c=>by cases c);have z1:=s.size;have d0:=g1.cell H0.o (by simp);have d1:=g1.cell H1.o (by simp);have d2:=g1.cell H2.o (by simp);have d3:=g1.cell H3.o (by simp);have d4:=g1.cell H4.o (by simp);have d5:=g1.cell H5.o (by simp);have d6:=g1.cell H6.o (by simp);have d7:=g1.cell H7.o (by simp);have ao:=J g1;go_wp2_with (at_builtin;refine Ei _ rfl _ _ 117 rfl (wq.heap.size) 126 i0 _ 8 144 underlying117 hi ak al am rfl (by decide) _ _ _ rfl (Ao af.o _) ⟨w1.heap.size,0,S⟩ 1 1 [O Ai d[i].number,I (Aa d[i].path),X N d[i].ms.length Q,X t1 d[i].tg.length t2,Av d[i].change,I (Aa d[i].to),X x1 d[i].sets.length x2,X F d[i].drops.length H] rfl rfl ?c1 ?c2 (by decide) ?c3 ?c4 ?c5 (w1.heap.size+1) (by simp) ?_)
      case c1=>exact zZ _ #[_,_,_,_,_,_,_,_] _ _ (by simp)
      case c2=>exact fq ah.o
      case c3=>unfold Bh;omega
      case c4=>omega
      case c5=>simp;omega
      intro g2 aq w2 z o _ _;have ag:=J z;have aE:Y _:=zK (Ao aD.o _) o (fun k hk c=>by have h1:=(An C.o k hk).2;have h2:=(An af.o k c).1;omega);have z2:w1.heap.size+1<=w2.heap.size:=by have h:=o.size;simpa using h
      have ap:=J o;have aL:Y (∀j u,(cs.flatten)[j]?=V u->w2.cell? ⟨go,j,S⟩=V u):=by
       intro j u B;have ad:=(Bo.1 B).1;rw[C.o.1] at ad;rw[Ap aE.o j ad];exact B
      go_wp2_with (at_builtin;refine Cu _ rfl _ _ 117 rfl (wq.heap.size) 126 i0 _ 8 144 underlying117 hi ak al am rfl (by decide) _ _ _ rfl ag.o ⟨go,k*8,S⟩ (i-k) (f-k) (cs.flatten.drop (k*8)) rfl ?b1 ?b2 ?b3 ?b4 ?b5 ?b6 ?_)
      case b1=>rw[Cy,an.o];omega
      case b2=>
       intro j u B;rw[Vq] at B;have:=aL.o (k*8+j) u B;unfold Qp
       split
       ·rename_i h0;subst h0;exact this
       ·exact this
      case b3=>exact fun u B=>aB.o u (List.mem_of_mem_drop B)
      case b4=>unfold Bh;omega
      case b5=>omega
      case b6=>omega
      intro v3 w3 av y _;have gA:=Ac w1 (Ae #[O Ai d[i].number,I (Aa d[i].path),X N d[i].ms.length Q,X t1 d[i].tg.length t2,Av d[i].change,I (Aa d[i].to),X x1 d[i].sets.length x2,X F d[i].drops.length H] 126) S;have aw:Safe (w1.alloc (Ae #[O Ai d[i].number,I (Aa d[i].path),X N d[i].ms.length Q,X t1 d[i].tg.length t2,Av d[i].change,I (Aa d[i].to),X x1 d[i].sets.length x2,X F d[i].drops.length H] 126)) (X aG k aH).ownBlock leaves:=xk (Ao af.o _) (by decide);have ax:Safe w2 (X (V ⟨g2,0,S⟩) (k+1) aq).ownBlock leaves:=xk ag.o (by decide);have kp:∀a b,RuleVal wq a b->RuleVal w3 a b:=fun a b hab=>(((hab.keep ao.o (za _ _)).keep gA (za _ _)).keep ap.o aw).keep y ax
      have ay:Y (All2 (RuleVal w3) (cs.take k++([[O Ai d[i].number,I (Aa d[i].path),X N d[i].ms.length Q,X t1 d[i].tg.length t2,Av d[i].change,I (Aa d[i].to),X x1 d[i].sets.length x2,X F d[i].drops.length H]]:A (A Aj))++cs.drop k) (zf (d.take (i+1)))):=by
       rw[HS.o];unfold fL;rw[aJ.o];exact((ab.o.take k).append (.cons aA.o .nil) |>.append (ab.o.drop k)).map kp
      have aj:Y (w3.ownsRow w.heap.size 126 8 v3 (i+1) (cs.take k++([[O Ai d[i].number,I (Aa d[i].path),X N d[i].ms.length Q,X t1 d[i].tg.length t2,Av d[i].change,I (Aa d[i].to),X x1 d[i].sets.length x2,X F d[i].drops.length H]]:A (A Aj))++cs.drop k).flatten):=by
       rw[Eg,Eg,dQ ab.o,dP ab.o,show i+1=k+1+(i-k) by omega,show([[O Ai d[i].number,I (Aa d[i].path),X N d[i].ms.length Q,X t1 d[i].tg.length t2,Av d[i].change,I (Aa d[i].to),X x1 d[i].sets.length x2,X F d[i].drops.length H]]:A (A Aj)).flatten=[O Ai d[i].number,I (Aa d[i].path),X N d[i].ms.length Q,X t1 d[i].tg.length t2,Av d[i].change,I (Aa d[i].to),X x1 d[i].sets.length x2,X F d[i].drops.length H] from rfl,Bl];exact zo av zq
      have az:Y (Ms w.heap.size w w3):=by
       refine aa.o.trans ?_;have b1:=(qh ao.o).mono (show w.heap.size<=wq.heap.size by omega);have b2:=(b1.alloc (by omega) (Ae #[O Ai d[i].number,I (Aa d[i].path),X N d[i].ms.length Q,X t1 d[i].tg.length t2,Av d[i].change,I (Aa d[i].to),X x1 d[i].sets.length x2,X F d[i].drops.length H] 126)).grown ap.o (by simp;omega) (fun k hk=>by have:=(An af.o k hk).1;omega);exact b2.grown y (by omega) (fun k hk=>by have:=(An ag.o k hk).1;omega)
      obtain⟨aU,aV,rfl⟩:=zL aj.o;go_wp2
      go_roundw
      case rel=>exact⟨i+1,_,by omega,by go_num,aj,ay,az⟩
      case measure=>simp[intOf];omega
    ·have aJ:Y (sy d[i] out=k):=ku _ _ _ (by omega) (fun j hj=>Cf (HK.o j hj (by omega))) (fun h=>by omega)
     obtain rfl:k=i:=by omega
     have aY:=aC.o.2;rcases aY with ⟨hnil,hi0⟩|⟨go,aX,cur,hsl,_,_,_⟩
     ·simp only[Au] at hnil
      obtain⟨rfl,rfl,rfl⟩:=hnil;go_wp2_with fail;go_quiet (fail);have ai:Y _:=x3 wr nq;have ab:Y (All2 (RuleVal (wr.drewN nq)) cs out):=aI.o.map fun a b hab=>hab.keep ai.o (za _ _)
      have aa:=J (aK.o.trans ((qh ai.o).mono (by omega)));generalize wr.drewN nq=wq at*;obtain⟨vM,vT,vS,vD,m,hM,hT,ae,hD⟩:=All2.get g.o 0 (by rw[g.o.len];exact q) q;obtain⟨N,Q,rfl⟩:=zL hM;obtain⟨t1,t2,rfl⟩:=zL hT;obtain⟨x1,x2,rfl⟩:=zL ae;obtain⟨F,H,rfl⟩:=zL hD;have ah:Y (RuleVal w [O Ai d[0].number,I (Aa d[0].path),X N d[0].ms.length Q,X t1 d[0].tg.length t2,Av d[0].change,I (Aa d[0].to),X x1 d[0].sets.length x2,X F d[0].drops.length H] d[0]):=⟨_,_,_,_,rfl,hM,hT,ae,hD⟩;have r:=xz aa.o;have zq:=aa.o.size;have H0:Y (wq.cell? ⟨t,0*8,S⟩=V (O Ai d[0].number)):=by
       refine r.cell (a:=⟨t,0*8,S⟩) ?_ (by simp);rw[Ap n.o (0*8) (by omega),show ar.flatten[0*8]?=ar.flatten[0*8+0]? from rfl,qL g.o 0 0 q (by omega),m];rfl
      have H1:Y (wq.cell? ⟨t,0*8+1,S⟩=V (I (Aa d[0].path))):=by
       refine r.cell (a:=⟨t,0*8+1,S⟩) ?_ (by simp);rw[Ap n.o (0*8+1) (by omega),qL g.o 0 1 q (by omega),m];rfl
      have H2:Y (wq.cell? ⟨t,0*8+2,S⟩=V (X N d[0].ms.length Q)):=by
       refine r.cell (a:=⟨t,0*8+2,S⟩) ?_ (by simp);rw[Ap n.o (0*8+2) (by omega),qL g.o 0 2 q (by omega),m];rfl
      have H3:Y (wq.cell? ⟨t,0*8+3,S⟩=V (X t1 d[0].tg.length t2)):=by
       refine r.cell (a:=⟨t,0*8+3,S⟩) ?_ (by simp);rw[Ap n.o (0*8+3) (by omega),qL g.o 0 3 q (by omega),m];rfl
      have H4:Y (wq.cell? ⟨t,0*8+4,S⟩=V (Av d[0].change)):=by
       refine r.cell (a:=⟨t,0*8+4,S⟩) ?_ (by simp);rw[Ap n.o (0*8+4) (by omega),qL g.o 0 4 q (by omega),m];rfl
      have H5:Y (wq.cell? ⟨t,0*8+5,S⟩=V (I (Aa d[0].to))):=by
       refine r.cell (a:=⟨t,0*8+5,S⟩) ?_ (by simp);rw[Ap n.o (0*8+5) (by omega),qL g.o 0 5 q (by omega),m];rfl
      have H6:Y (wq.cell? ⟨t,0*8+6,S⟩=V (X x1 d[0].sets.length x2)):=by
       refine r.cell (a:=⟨t,0*8+6,S⟩) ?_ (by simp);rw[Ap n.o (0*8+6) (by omega),qL g.o 0 6 q (by omega),m];rfl
      have H7:Y (wq.cell? ⟨t,0*8+7,S⟩=V (X F d[0].drops.length H)):=by
       refine r.cell (a:=⟨t,0*8+7,S⟩) ?_ (by simp);rw[Ap n.o (0*8+7) (by omega),qL g.o 0 7 q (by omega),m];rfl
      have aA:Y (RuleVal wq [O Ai d[0].number,I (Aa d[0].path),X N d[0].ms.length Q,X t1 d[0].tg.length t2,Av d[0].change,I (Aa d[0].to),X x1 d[0].sets.length x2,X F d[0].drops.length H] d[0]):=ah.o.keep (xz aa.o) (za _ _);have d0:=H0.o;have d1:=H1.o;have d2:=H2.o;have d3:=H3.o;have d4:=H4.o;have d5:=H5.o;have d6:=H6.o;have d7:=H7.o;go_wp2_with (first
       |(at_builtin;refine Qa rfl _ _ 117 rfl (wq.heap.size) 126 i0 8 underlying117 hi _ _ _ rfl (Bk _ _ _ _) rfl ?_)
       |(at_builtin;refine Ei _ rfl _ _ 117 rfl (wq.heap.size) 126 i0 _ 8 144 underlying117 hi ak al am rfl (by decide) _ _ _ rfl (Bk _ _ _ _) ⟨wq.heap.size,0,S⟩ 1 1 [O Ai d[0].number,I (Aa d[0].path),X N d[0].ms.length Q,X t1 d[0].tg.length t2,Av d[0].change,I (Aa d[0].to),X x1 d[0].sets.length x2,X F d[0].drops.length H] rfl rfl ?c1 ?c2 (by decide) ?c3 ?c4 ?c5 (wq.heap.size+1) (by simp) ?_))
      case c1=>exact zZ _ #[_,_,_,_,_,_,_,_] _ _ (by simp)
      case c2=>exact fq ah.o
      case c3=>unfold Bh;omega
      case c4=>omega
      case c5=>simp
      intro g2 aq w2 z o _ _;have ag:Y (w2.ownsRow wq.heap.size 126 8 (X (V ⟨g2,0,S⟩) 1 aq) 1 [O Ai d[0].number,I (Aa d[0].path),X N d[0].ms.length Q,X t1 d[0].tg.length t2,Av d[0].change,I (Aa d[0].to),X x1 d[0].sets.length x2,X F d[0].drops.length H]):=z;have gA:=Ac wq (Ae #[O Ai d[0].number,I (Aa d[0].path),X N d[0].ms.length Q,X t1 d[0].tg.length t2,Av d[0].change,I (Aa d[0].to),X x1 d[0].sets.length x2,X F d[0].drops.length H] 126) S;have ay:Y (All2 (RuleVal w2) ([[O Ai d[0].number,I (Aa d[0].path),X N d[0].ms.length Q,X t1 d[0].tg.length t2,Av d[0].change,I (Aa d[0].to),X x1 d[0].sets.length x2,X F d[0].drops.length H]]:A (A Aj)) (zf (d.take (0+1)))):=by
       rw[HS.o];unfold fL;rw[Ep.1 aT];exact .cons ((aA.o.keep gA (za _ _)).keep o (za _ _)) .nil
      have aj:Y (w2.ownsRow w.heap.size 126 8 (X (V ⟨g2,0,S⟩) 1 aq) (0+1) ([[O Ai d[0].number,I (Aa d[0].path),X N d[0].ms.length Q,X t1 d[0].tg.length t2,Av d[0].change,I (Aa d[0].to),X x1 d[0].sets.length x2,X F d[0].drops.length H]]:A (A Aj)).flatten):=zo z zq;have az:Y (Ms w.heap.size w w2):=aa.o.trans (((Vw _ _).alloc zq _).grown o (by simp;omega) (fun k hk=>by cases hk));go_wp2_with (at_builtin;refine Qa rfl _ _ 117 rfl (wq.heap.size) 126 i0 8 underlying117 hi _ _ _ rfl ag.o rfl ?_)
      go_roundw
      case rel=>exact⟨0+1,_,by omega,by go_num,aj,ay,az⟩
      case measure=>simp[intOf];omega
     ·simp only[Au] at hsl
      obtain⟨rfl,_,rfl⟩:=hsl;go_wp2_with fail;go_quiet (fail);have ai:Y _:=x3 wr nq;have C:Y _:=zK aC.o ai.o (fun k hk c=>by cases c);have ab:Y (All2 (RuleVal (wr.drewN nq)) cs out):=aI.o.map fun a b hab=>hab.keep ai.o (za _ _)
      have aa:=J (aK.o.trans ((qh ai.o).mono (by omega)));generalize wr.drewN nq=wq at*
      by_cases bc:k<f
      ·obtain⟨vM,vT,vS,vD,m,hM,hT,ae,hD⟩:=All2.get g.o k (by rw[g.o.len];exact q) q
       obtain⟨N,Q,rfl⟩:=zL hM;obtain⟨t1,t2,rfl⟩:=zL hT;obtain⟨x1,x2,rfl⟩:=zL ae;obtain⟨F,H,rfl⟩:=zL hD;have ah:Y (RuleVal w [O Ai d[k].number,I (Aa d[k].path),X N d[k].ms.length Q,X t1 d[k].tg.length t2,Av d[k].change,I (Aa d[k].to),X x1 d[k].sets.length x2,X F d[k].drops.length H] d[k]):=⟨_,_,_,_,rfl,hM,hT,ae,hD⟩;have r:=xz aa.o;have zq:=aa.o.size;have H0:Y (wq.cell? ⟨t,k*8,S⟩=V (O Ai d[k].number)):=by
        refine r.cell (a:=⟨t,k*8,S⟩) ?_ (by simp);rw[Ap n.o (k*8) (by omega),show ar.flatten[k*8]?=ar.flatten[k*8+0]? from rfl,qL g.o k 0 q (by omega),m];rfl
       have H1:Y (wq.cell? ⟨t,k*8+1,S⟩=V (I (Aa d[k].path))):=by
        refine r.cell (a:=⟨t,k*8+1,S⟩) ?_ (by simp);rw[Ap n.o (k*8+1) (by omega),qL g.o k 1 q (by omega),m];rfl
       have H2:Y (wq.cell? ⟨t,k*8+2,S⟩=V (X N d[k].ms.length Q)):=by
        refine r.cell (a:=⟨t,k*8+2,S⟩) ?_ (by simp);rw[Ap n.o (k*8+2) (by omega),qL g.o k 2 q (by omega),m];rfl
       have H3:Y (wq.cell? ⟨t,k*8+3,S⟩=V (X t1 d[k].tg.length t2)):=by
        refine r.cell (a:=⟨t,k*8+3,S⟩) ?_ (by simp);rw[Ap n.o (k*8+3) (by omega),qL g.o k 3 q (by omega),m];rfl
       have H4:Y (wq.cell? ⟨t,k*8+4,S⟩=V (Av d[k].change)):=by
        refine r.cell (a:=⟨t,k*8+4,S⟩) ?_ (by simp);rw[Ap n.o (k*8+4) (by omega),qL g.o k 4 q (by omega),m];rfl
       have H5:Y (wq.cell? ⟨t,k*8+5,S⟩=V (I (Aa d[k].to))):=by
        refine r.cell (a:=⟨t,k*8+5,S⟩) ?_ (by simp);rw[Ap n.o (k*8+5) (by omega),qL g.o k 5 q (by omega),m];rfl
       have H6:Y (wq.cell? ⟨t,k*8+6,S⟩=V (X x1 d[k].sets.length x2)):=by
        refine r.cell (a:=⟨t,k*8+6,S⟩) ?_ (by simp);rw[Ap n.o (k*8+6) (by omega),qL g.o k 6 q (by omega),m];rfl
       have H7:Y (wq.cell? ⟨t,k*8+7,S⟩=V (X F d[k].drops.length H)):=by
        refine r.cell (a:=⟨t,k*8+7,S⟩) ?_ (by simp);rw[Ap n.o (k*8+7) (by omega),qL g.o k 7 q (by omega),m];rfl
       have aA:Y (RuleVal wq [O Ai d[k].number,I (Aa d[k].path),X N d[k].ms.length Q,X t1 d[k].tg.length t2,Av d[k].change,I (Aa d[k].to),X x1 d[k].sets.length x2,X F d[k].drops.length H] d[k]):=ah.o.keep (xz aa.o) (za _ _);have HW:Y (∀j u,(cs.flatten)[j]?=V u->wq.cell? ⟨go,j,S⟩=V u):=by
        intro j u B;have ad:=(Bo.1 B).1;rw[C.o.1] at ad;rw[Ap C.o j ad];exact B
       have au:=uA C.o;unfold Bh at au;obtain⟨aO,aP⟩:=au;have an:=J (C.o.1);have aB:=J (dm ab.o);go_wp2_with (at_builtin;refine Cu _ rfl _ _ 117 rfl (wq.heap.size) 126 i0 _ 8 144 underlying117 hi ak al am rfl (by decide) _ _ _ rfl (Bk _ _ _ _) ⟨go,0,S⟩ k f (cs.flatten.take (k*8)) rfl ?a1 ?a2 ?a3 ?a4 ?a5 ?a6 ?_)
       case a1=>rw[Cq,an.o];omega
       case a2=>
        intro j u B;rw[uk];rw[Gi] at B
        split at B
        ·exact HW.o j u B
        ·cases B
       case a3=>exact fun u B=>aB.o u (Oi B)
       case a4=>unfold Bh;omega
       case a5=>omega
       case a6=>exact Aq _
       intro v1 w1 E s _;obtain⟨aG,aH,rfl⟩:=zL E;have g1:wq.grownBy w1 S:=s;have af:=J E;have aD:Y _:=zK C.o s (fun k hk c=>by cases c);have z1:=s.size;have d0:=g1.cell H0.o (by simp);have d1:=g1.cell H1.o (by simp);have d2:=g1.cell H2.o (by simp);have d3:=g1.cell H3.o (by simp);have d4:=g1.cell H4.o (by simp);have d5:=g1.cell H5.o (by simp);have d6:=g1.cell H6.o (by simp);have d7:=g1.cell H7.o (by simp);have ao:=J g1;go_wp2_with (at_builtin;refine Ei _ rfl _ _ 117 rfl (wq.heap.size) 126 i0 _ 8 144 underlying117 hi ak al am rfl (by decide) _ _ _ rfl (Ao af.o _) ⟨w1.heap.size,0,S⟩ 1 1 [O Ai d[k].number,I (Aa d[k].path),X N d[k].ms.length Q,X t1 d[k].tg.length t2,Av d[k].change,I (Aa d[k].to),X x1 d[k].sets.length x2,X F d[k].drops.length H] rfl rfl ?c1 ?c2 (by decide) ?c3 ?c4 ?c5 (w1.heap.size+1) (by simp) ?_)
       case c1=>exact zZ _ #[_,_,_,_,_,_,_,_] _ _ (by simp)
       case c2=>exact fq ah.o
       case c3=>unfold Bh;omega
       case c4=>omega
       case c5=>simp;omega
       intro g2 aq w2 z o _ _;have ag:=J z;have aE:Y _:=zK (Ao aD.o _) o (fun k hk c=>by have h1:=(An C.o k hk).2;have h2:=(An af.o k c).1;omega);have z2:w1.heap.size+1<=w2.heap.size:=by have h:=o.size;simpa using h
       have ap:=J o;have aL:Y (∀j u,(cs.flatten)[j]?=V u->w2.cell? ⟨go,j,S⟩=V u):=by
        intro j u B;have ad:=(Bo.1 B).1;rw[C.o.1] at ad;rw[Ap aE.o j ad];exact B
       go_wp2_with (at_builtin;refine Cu _ rfl _ _ 117 rfl (wq.heap.size) 126 i0 _ 8 144 underlying117 hi ak al am rfl (by decide) _ _ _ rfl ag.o ⟨go,k*8,S⟩ 0 (f-k) [] rfl ?b1 ?b2 ?b3 ?b4 ?b5 ?b6 ?_)
       case b1=>rfl
       case b2=>intro j u B;simp at B
       case b3=>exact fun u B=>by simp at B
       case b4=>unfold Bh;omega
       case b5=>omega
       case b6=>omega
       intro v3 w3 av y _;have gA:=Ac w1 (Ae #[O Ai d[k].number,I (Aa d[k].path),X N d[k].ms.length Q,X t1 d[k].tg.length t2,Av d[k].change,I (Aa d[k].to),X x1 d[k].sets.length x2,X F d[k].drops.length H] 126) S;have aw:Safe (w1.alloc (Ae #[O Ai d[k].number,I (Aa d[k].path),X N d[k].ms.length Q,X t1 d[k].tg.length t2,Av d[k].change,I (Aa d[k].to),X x1 d[k].sets.length x2,X F d[k].drops.length H] 126)) (X aG k aH).ownBlock leaves:=xk (Ao af.o _) (by decide);have ax:Safe w2 (X (V ⟨g2,0,S⟩) (k+1) aq).ownBlock leaves:=xk ag.o (by decide);have kp:∀a b,RuleVal wq a b->RuleVal w3 a b:=fun a b hab=>(((hab.keep ao.o (za _ _)).keep gA (za _ _)).keep ap.o aw).keep y ax
       have ay:Y (All2 (RuleVal w3) (cs.take k++([[O Ai d[k].number,I (Aa d[k].path),X N d[k].ms.length Q,X t1 d[k].tg.length t2,Av d[k].change,I (Aa d[k].to),X x1 d[k].sets.length x2,X F d[k].drops.length H]]:A (A Aj))++cs.drop k) (zf (d.take (k+1)))):=by
        rw[HS.o];unfold fL;rw[aJ.o];exact((ab.o.take k).append (.cons aA.o .nil) |>.append (ab.o.drop k)).map kp
       have aj:Y (w3.ownsRow w.heap.size 126 8 v3 (k+1) (cs.take k++([[O Ai d[k].number,I (Aa d[k].path),X N d[k].ms.length Q,X t1 d[k].tg.length t2,Av d[k].change,I (Aa d[k].to),X x1 d[k].sets.length x2,X F d[k].drops.length H]]:A (A Aj))++cs.drop k).flatten):=by
        rw[Eg,Eg,dQ ab.o,dP ab.o,show k+1=k+1+0 by omega,show([[O Ai d[k].number,I (Aa d[k].path),X N d[k].ms.length Q,X t1 d[k].tg.length t2,Av d[k].change,I (Aa d[k].to),X x1 d[k].sets.length x2,X F d[k].drops.length H]]:A (A Aj)).flatten=[O Ai d[k].number,I (Aa d[k].path),X N d[k].ms.length Q,X t1 d[k].tg.length t2,Av d[k].change,I (Aa d[k].to),X x1 d[k].sets.length x2,X F d[k].drops.length H] from rfl,Ga (l:=cs.flatten) (by rw[an.o];omega),Bl];exact zo av zq
       have az:Y (Ms w.heap.size w w3):=by
        refine aa.o.trans ?_;have b1:=(qh ao.o).mono (show w.heap.size<=wq.heap.size by omega);have b2:=(b1.alloc (by omega) (Ae #[O Ai d[k].number,I (Aa d[k].path),X N d[k].ms.length Q,X t1 d[k].tg.length t2,Av d[k].change,I (Aa d[k].to),X x1 d[k].sets.length x2,X F d[k].drops.length H] 126)).grown ap.o (by simp;omega) (fun k hk=>by have:=(An af.o k hk).1;omega);exact b2.grown y (by omega) (fun k hk=>by have:=(An ag.o k hk).1;omega)
       obtain⟨aU,aV,rfl⟩:=zL aj.o;go_wp2
       go_roundw
       case rel=>exact⟨k+1,_,by omega,by go_num,aj,ay,az⟩
       case measure=>simp[intOf];omega
      ·obtain rfl:f=k:=by have h:=(uA C.o).1;omega
       obtain⟨vM,vT,vS,vD,m,hM,hT,ae,hD⟩:=All2.get g.o f (by rw[g.o.len];exact q) q;obtain⟨N,Q,rfl⟩:=zL hM;obtain⟨t1,t2,rfl⟩:=zL hT;obtain⟨x1,x2,rfl⟩:=zL ae;obtain⟨F,H,rfl⟩:=zL hD;have ah:Y (RuleVal w [O Ai d[f].number,I (Aa d[f].path),X N d[f].ms.length Q,X t1 d[f].tg.length t2,Av d[f].change,I (Aa d[f].to),X x1 d[f].sets.length x2,X F d[f].drops.length H] d[f]):=⟨_,_,_,_,rfl,hM,hT,ae,hD⟩;have r:=xz aa.o;have zq:=aa.o.size;have H0:Y (wq.cell? ⟨t,f*8,S⟩=V (O Ai d[f].number)):=by
        refine r.cell (a:=⟨t,f*8,S⟩) ?_ (by simp);rw[Ap n.o (f*8) (by omega),show ar.flatten[f*8]?=ar.flatten[f*8+0]? from rfl,qL g.o f 0 q (by omega),m];rfl
       have H1:Y (wq.cell? ⟨t,f*8+1,S⟩=V (I (Aa d[f].path))):=by
        refine r.cell (a:=⟨t,f*8+1,S⟩) ?_ (by simp);rw[Ap n.o (f*8+1) (by omega),qL g.o f 1 q (by omega),m];rfl
       have H2:Y (wq.cell? ⟨t,f*8+2,S⟩=V (X N d[f].ms.length Q)):=by
        refine r.cell (a:=⟨t,f*8+2,S⟩) ?_ (by simp);rw[Ap n.o (f*8+2) (by omega),qL g.o f 2 q (by omega),m];rfl
       have H3:Y (wq.cell? ⟨t,f*8+3,S⟩=V (X t1 d[f].tg.length t2)):=by
        refine r.cell (a:=⟨t,f*8+3,S⟩) ?_ (by simp);rw[Ap n.o (f*8+3) (by omega),qL g.o f 3 q (by omega),m];rfl
       have H4:Y (wq.cell? ⟨t,f*8+4,S⟩=V (Av d[f].change)):=by
        refine r.cell (a:=⟨t,f*8+4,S⟩) ?_ (by simp);rw[Ap n.o (f*8+4) (by omega),qL g.o f 4 q (by omega),m];rfl
       have H5:Y (wq.cell? ⟨t,f*8+5,S⟩=V (I (Aa d[f].to))):=by
        refine r.cell (a:=⟨t,f*8+5,S⟩) ?_ (by simp);rw[Ap n.o (f*8+5) (by omega),qL g.o f 5 q (by omega),m];rfl
       have H6:Y (wq.cell? ⟨t,f*8+6,S⟩=V (X x1 d[f].sets.length x2)):=by
        refine r.cell (a:=⟨t,f*8+6,S⟩) ?_ (by simp);rw[Ap n.o (f*8+6) (by omega),qL g.o f 6 q (by omega),m];rfl
       have H7:Y (wq.cell? ⟨t,f*8+7,S⟩=V (X F d[f].drops.length H)):=by
        refine r.cell (a:=⟨t,f*8+7,S⟩) ?_ (by simp);rw[Ap n.o (f*8+7) (by omega),qL g.o f 7 q (by omega),m];rfl
       have aA:Y (RuleVal wq [O Ai d[f].number,I (Aa d[f].path),X N d[f].ms.length Q,X t1 d[f].tg.length t2,Av d[f].change,I (Aa d[f].to),X x1 d[f].sets.length x2,X F d[f].drops.length H] d[f]):=ah.o.keep (xz aa.o) (za _ _);have HW:Y (∀j u,(cs.flatten)[j]?=V u->wq.cell? ⟨go,j,S⟩=V u):=by
        intro j u B;have ad:=(Bo.1 B).1;rw[C.o.1] at ad;rw[Ap C.o j ad];exact B
       have au:=uA C.o;unfold Bh at au;obtain⟨aO,aP⟩:=au;have an:=J (C.o.1);have aB:=J (dm ab.o);go_wp2_with (at_builtin;refine Cu _ rfl _ _ 117 rfl (wq.heap.size) 126 i0 _ 8 144 underlying117 hi ak al am rfl (by decide) _ _ _ rfl (Bk _ _ _ _) ⟨go,0,S⟩ f f (cs.flatten.take (f*8)) rfl ?a1 ?a2 ?a3 ?a4 ?a5 ?a6 ?_)
       case a1=>rw[Cq,an.o];omega
       case a2=>
        intro j u B;rw[uk];rw[Gi] at B
        split at B
        ·exact HW.o j u B
        ·cases B
       case a3=>exact fun u B=>aB.o u (Oi B)
       case a4=>unfold Bh;omega
       case a5=>omega
       case a6=>exact Aq _
       intro v1 w1 E s _;obtain⟨aG,aH,rfl⟩:=zL E;have g1:wq.grownBy w1 S:=s;have af:=J E;have aD:Y _:=zK C.o s (fun f hk c=>by cases c);have z1:=s.size;have d0:=g1.cell H0.o (by simp);have d1:=g1.cell H1.o (by simp);have d2:=g1.cell H2.o (by simp);have d3:=g1.cell H3.o (by simp);have d4:=g1.cell H4.o (by simp);have d5:=g1.cell H5.o (by simp);have d6:=g1.cell H6.o (by simp);have d7:=g1.cell H7.o (by simp);have ao:=J g1;go_wp2_with (at_builtin;refine Ei _ rfl _ _ 117 rfl (wq.heap.size) 126 i0 _ 8 144 underlying117 hi ak al am rfl (by decide) _ _ _ rfl (Ao af.o _) ⟨w1.heap.size,0,S⟩ 1 1 [O Ai d[f].number,I (Aa d[f].path),X N d[f].ms.length Q,X t1 d[f].tg.length t2,Av d[f].change,I (Aa d[f].to),X x1 d[f].sets.length x2,X F d[f].drops.length H] rfl rfl ?c1 ?c2 (by decide) ?c3 ?c4 ?c5 (w1.heap.size+1) (by simp) ?_)
       case c1=>exact zZ _ #[_,_,_,_,_,_,_,_] _ _ (by simp)
       case c2=>exact fq ah.o
       case c3=>unfold Bh;omega
       case c4=>omega
       case c5=>simp;omega
       intro g2 aq w2 z o _ _;have ag:=J z;have aE:Y _:=zK (Ao aD.o _) o (fun f hk c=>by have h1:=(An C.o f hk).2;have h2:=(An af.o f c).1;omega);have z2:w1.heap.size+1<=w2.heap.size:=by have h:=o.size;simpa using h
       have ap:=J o;have aL:Y (∀j u,(cs.flatten)[j]?=V u->w2.cell? ⟨go,j,S⟩=V u):=by
        intro j u B;have ad:=(Bo.1 B).1;rw[C.o.1] at ad;rw[Ap aE.o j ad];exact B
       go_wp2_with (at_builtin;refine Cu _ rfl _ _ 117 rfl (wq.heap.size) 126 i0 _ 8 144 underlying117 hi ak al am rfl (by decide) _ _ _ rfl ag.o ⟨go,0,S⟩ 0 0 [] rfl ?b1 ?b2 ?b3 ?b4 ?b5 ?b6 ?_)
       case b1=>rfl
       case b2=>intro j u B;simp at B
       case b3=>exact fun u B=>by simp at B
       case b4=>unfold Bh;omega
       case b5=>omega
       case b6=>omega
       intro v3 w3 av y _;have gA:=Ac w1 (Ae #[O Ai d[f].number,I (Aa d[f].path),X N d[f].ms.length Q,X t1 d[f].tg.length t2,Av d[f].change,I (Aa d[f].to),X x1 d[f].sets.length x2,X F d[f].drops.length H] 126) S;have aw:Safe (w1.alloc (Ae #[O Ai d[f].number,I (Aa d[f].path),X N d[f].ms.length Q,X t1 d[f].tg.length t2,Av d[f].change,I (Aa d[f].to),X x1 d[f].sets.length x2,X F d[f].drops.length H] 126)) (X aG f aH).ownBlock leaves:=xk (Ao af.o _) (by decide);have ax:Safe w2 (X (V ⟨g2,0,S⟩) (f+1) aq).ownBlock leaves:=xk ag.o (by decide);have kp:∀a b,RuleVal wq a b->RuleVal w3 a b:=fun a b hab=>(((hab.keep ao.o (za _ _)).keep gA (za _ _)).keep ap.o aw).keep y ax
       have ay:Y (All2 (RuleVal w3) (cs.take f++([[O Ai d[f].number,I (Aa d[f].path),X N d[f].ms.length Q,X t1 d[f].tg.length t2,Av d[f].change,I (Aa d[f].to),X x1 d[f].sets.length x2,X F d[f].drops.length H]]:A (A Aj))++cs.drop f) (zf (d.take (f+1)))):=by
        rw[HS.o];unfold fL;rw[aJ.o];exact((ab.o.take f).append (.cons aA.o .nil) |>.append (ab.o.drop f)).map kp
       have aj:Y (w3.ownsRow w.heap.size 126 8 v3 (f+1) (cs.take f++([[O Ai d[f].number,I (Aa d[f].path),X N d[f].ms.length Q,X t1 d[f].tg.length t2,Av d[f].change,I (Aa d[f].to),X x1 d[f].sets.length x2,X F d[f].drops.length H]]:A (A Aj))++cs.drop f).flatten):=by
        rw[Eg,Eg,dQ ab.o,dP ab.o,show f+1=f+1+0 by omega,show([[O Ai d[f].number,I (Aa d[f].path),X N d[f].ms.length Q,X t1 d[f].tg.length t2,Av d[f].change,I (Aa d[f].to),X x1 d[f].sets.length x2,X F d[f].drops.length H]]:A (A Aj)).flatten=[O Ai d[f].number,I (Aa d[f].path),X N d[f].ms.length Q,X t1 d[f].tg.length t2,Av d[f].change,I (Aa d[f].to),X x1 d[f].sets.length x2,X F d[f].drops.length H] from rfl,Ga (l:=cs.flatten) (by rw[an.o];omega),Bl];exact zo av zq
       have az:Y (Ms w.heap.size w w3):=by
        refine aa.o.trans ?_;have b1:=(qh ao.o).mono (show w.heap.size<=wq.heap.size by omega);have b2:=(b1.alloc (by omega) (Ae #[O Ai d[f].number,I (Aa d[f].path),X N d[f].ms.length Q,X t1 d[f].tg.length t2,Av d[f].change,I (Aa d[f].to),X x1 d[f].sets.length x2,X F d[f].drops.length H] 126)).grown ap.o (by simp;omega) (fun f hk=>by have:=(An af.o f hk).1;omega);exact b2.grown y (by omega) (fun f hk=>by have:=(An ag.o f hk).1;omega)
       obtain⟨aU,aV,rfl⟩:=zL aj.o;go_wp2
       go_roundw
       case rel=>exact⟨f+1,_,by omega,by go_num,aj,ay,az⟩
       case measure=>simp[intOf];omega
  ·go_wp2
   go_ret;rw[show i=Z d by omega,Cc (Aq _)] at HA;refine⟨_,rfl,HB.o,cs,?_,HA.o⟩;rw[bD,show (Z d)=i by omega];exact zo HO.o (Ax _)
namespace R
theorem overS_bad {t:Tok}{st:St}{a:Bool}(h:0<=st.bad):overS t st a=st:=by unfold overS;rw[Az h]
theorem needS_bad {ts:A Tok}{st:St}{s:A Ab}(h:0<=st.bad):needS ts st s=st:=overS_bad h
theorem kindS_bad {ts:A Tok}{st:St}{k:Ak}(h:0<=st.bad):kindS ts st k=st:=overS_bad h
theorem notS_bad {st:St}{b:Bool}{e a:Ak}(h:0<=st.bad):notS st b e a=st:=by
 unfold notS;rw[Aw];intro c;omega
theorem isB_bad {st:St}{t:Tok}{s:A Ab}(h:0<=st.bad):isB st t s=false:=by
 unfold isB;rw[Ce (by omega)];rfl
theorem pathS_bad {ts:A Tok}{st:St}(h:0<=st.bad):(pathS ts st).2=st:=by
 unfold pathS;simp only;rw[kindS_bad h,notS_bad h]
theorem valueS_bad {ts:A Tok}{st:St}(h:0<=st.bad):(valueS ts st).2=st:=by
 unfold valueS;simp only;rw[needS_bad h,kindS_bad h,notS_bad h]
theorem among_bad {l:A (A Ab)}{s:A Ab}{p:Ak}{st:St}(h:0<=st.bad):among l s p st=st:=by
 unfold among
 induction l <;> grind[notS_bad]
theorem amongN_bad {l:A Ak}{n p:Ak}{st:St}(h:0<=st.bad):amongN l n p st=st:=by
 unfold amongN
 induction l <;> grind[notS_bad]
theorem headerS_bad {ts:A Tok}{st:St}{l:A (A Ab)}(h:0<=st.bad):(headerS ts st l).2=st:=by
 unfold headerS;simp only;rw[kindS_bad h,notS_bad h,among_bad h]
theorem mtLoop_bad {ts:A Tok}{n:Ad}{st:St}{a:A Mt}(h:0<=st.bad):mtLoop ts n st a=(a,st):=by
 cases n with
 |zero=>rfl
 |succ n=>unfold mtLoop;rw[isB_bad h];rfl
theorem tgLoop_bad {ts:A Tok}{n i:Ad}{st:St}{a:A (A Ab×Ak)}(h:0<=st.bad):tgLoop ts n st i a=(a,st):=by
 cases n with
 |zero=>rfl
 |succ n=>unfold tgLoop;rw[Aw (by omega)]
theorem targetsS_bad {ts:A Tok}{st:St}(h:0<=st.bad):(targetsS ts st).2=st:=by
 unfold targetsS;simp only;rw[needS_bad h,notS_bad h,tgLoop_bad h];simp only;rw[needS_bad h]
theorem stLoop_bad {ts:A Tok}{n:Ad}{st:St}{a:A (A Ab×A Ab)}(h:0<=st.bad):stLoop ts n st a=(a,st):=by
 cases n with
 |zero=>rfl
 |succ n=>unfold stLoop;rw[isB_bad h];rfl
theorem dpLoop_bad {ts:A Tok}{b:A (A Ab)}{n:Ad}{st:St}{a:A (A Ab)}(h:0<=st.bad):dpLoop ts b n st a=(a,st):=by
 cases n with
 |zero=>rfl
 |succ n=>unfold dpLoop;rw[isB_bad h];rfl
theorem editsS_bad {ts:A Tok}{st:St}(h:0<=st.bad):(editsS ts st).2=st:=by
 unfold editsS;simp only;rw[stLoop_bad h];simp only;rw[dpLoop_bad h]
theorem rlB_bad {ts:A Tok}{st:St}(h:0<=st.bad):(rlB ts st).2=st:=by
 unfold rlB;simp only;rw[needS_bad h,needS_bad h,pathS_bad h,needS_bad h]
theorem rlC_bad {ts:A Tok}{st:St}(h:0<=st.bad):(rlC ts st).2=st:=by
 unfold rlC;rw[isB_bad h];rfl
theorem rlA_bad {ts:A Tok}{st:St}{i:Ad}{l:A Ak}(h:0<=st.bad):(rlA ts st i l).2=st:=by
 unfold rlA rlA2;simp only;rw[needS_bad h,notS_bad h,kindS_bad h,notS_bad h,amongN_bad h]
theorem ruleS_bad {ts:A Tok}{st:St}{i:Ad}{l:A Ak}(h:0<=st.bad):(ruleS ts st i l).2=st:=by
 unfold ruleS ruleT ruleE matchesS;simp only
 grind[rlA_bad,rlB_bad,mtLoop_bad,targetsS_bad,rlC_bad,editsS_bad,needS_bad,Tok]
theorem rlLoop_bad {ts:A Tok}{n:Ad}{st:St}{a:A Rl}(h:0<=st.bad):rlLoop ts n st a=(a,st):=by
 cases n with
 |zero=>rfl
 |succ n=>unfold rlLoop;rw[isB_bad h];rfl
theorem rlLoop_K (ts:A Tok)(n:Ad):∀(st:St) (a:A Rl),st.K<=(rlLoop ts n st a).2.K:=by
 induction n with
 |zero=>intro st a;exact Aq _
 |succ n ih=>
  intro st a;unfold rlLoop;split
  ·rename_i h
   have b:=ruleS_K ts st (Z a) (a.map Rl.number) h;have c:=ih (ruleS ts st (Z a) (a.map Rl.number)).2 (a++[(ruleS ts st (Z a) (a.map Rl.number)).1])
   omega
  ·exact Aq _
theorem hsA_K (ts:A Tok)(st:St)(l:A (A Ab)):(needS ts st wHost).K<=(hsA ts st l).2.K:=by
 unfold hsA hsA2;simp only[among_K,notS_K];have:=kindS_K ts (notS (needS ts st wHost) (decide ((Z l:Ak)<4)) 3 (cur ts st).at_) 34
 rwa[notS_K] at this
theorem hsB_K (ts:A Tok)(a:A Ab×St):a.2.K<=(hsB ts a).2.K:=by
 unfold hsB;simp only;exact Bi (Bi (needS_K _ _ _) (rlLoop_K _ _ _ _)) (needS_K _ _ _)
theorem hsA_bad {ts:A Tok}{st:St}{l:A (A Ab)}(h:0<=(needS ts st wHost).bad):(hsA ts st l).2=needS ts st wHost:=by
 unfold hsA hsA2;simp only
 grind[notS_bad,kindS_bad,among_bad,Tok]
theorem hsB_bad {ts:A Tok}{a:A Ab×St}(h:0<=a.2.bad):(hsB ts a).2=a.2:=by
 unfold hsB;simp only
 grind[needS_bad,rlLoop_bad,Tok]
theorem hostS_K (ts:A Tok)(st:St)(l:A (A Ab)):st.K<=(hostS ts st l).2.K:=by
 unfold hostS;exact Bi (Bi (needS_K _ _ _) (hsA_K ts st l)) (hsB_K _ _)
theorem needS_no {ts:A Tok}{st:St}{s:A Ab}(a:st.bad<0)(h:isB st (cur ts st) s=false):(needS ts st s).bad=(cur ts st).at_:=by
 unfold needS overS;rw[Aw (by omega),h];rfl
theorem hostS_go (ts:A Tok)(st:St)(l:A (A Ab))(d:st.bad<0)(c:(hostS ts st l).2.bad<0):st.K+1<=(hostS ts st l).2.K:=by
 cases h:isB st (cur ts st) wHost with
 |true=>
  have b:(needS ts st wHost).K=st.K+1:=by rw[needS_yes h]
  have f:=hsA_K ts st l;have g:=hsB_K ts (hsA ts st l);unfold hostS;omega
 |false=>
  exfalso
  have b:=needS_no d h;have a:0<=(needS ts st wHost).bad:=by rw[b];omega
  unfold hostS at c;rw[hsB_bad (by rw[hsA_bad a];exact a),hsA_bad a] at c
  omega
def hsLoop (ts:A Tok):Ad->St->A Hst->A Hst×St
 |0,st,acc=>(acc,st)
 |n+1,st,acc=>if st.bad<0/\(cur ts st).k≠0 then hsLoop ts n (hostS ts st (acc.map Hst.name)).2 (acc++[(hostS ts st (acc.map Hst.name)).1]) else (acc,st)
def st0:St:=⟨0,-1,0,0⟩
def readS (l:A Ab):A Hst×St:=hsLoop (toks l) (Z (toks l)+2) st0 []
theorem wrap_id (n:Ak)(a:0<=n)(h:n<9223372036854775808):wrap64 n=n:=by unfold wrap64;omega
theorem numStep_digit (n:Ak)(c:Ab)(b:0<=n)(d:n<=100000000)(a:digitI c.toNat=true):numStep n c=10*n+(c.toNat-48)/\0<=(c.toNat:Ak)-48/\(c.toNat:Ak)-48<=9:=by
 unfold digitI at a;simp only[Ez,Gd] at a;unfold numStep;have e:((c.toNat:Ak)-48) % 256=c.toNat-48:=by omega
 rw[e,wrap_id (10*n) (by omega) (by omega),wrap_id _ (by omega) (by omega)]
 omega
theorem num_le (l:A Ab)(b:∀c∈l,digitI c.toNat=true)(i:Z l<=5):0<=num l/\num l<=99999:=by
 have g:∀(l:A Ab) (a:Ak) (m:Ad),(∀c∈l,digitI c.toNat=true)->0<=a->a+1<=(10:Ak) ^ m->m+Z l<=5->0<=l.foldl numStep a/\l.foldl numStep a+1<=(10:Ak) ^ (m+Z l):=by
  intro l
  induction l with
  |nil=>intro a m _ f h _;exact⟨f,h⟩
  |cons c l ih=>
   intro a m b f h j;have p:(10:Ak) ^ m<=100000:=by
    have:m<=5:=by omega
    match m,this with
    |0,_=>decide
    |1,_=>decide
    |2,_=>decide
    |3,_=>decide
    |4,_=>decide
    |5,_=>decide
   obtain⟨e,k,n⟩:=numStep_digit a c f (by omega) (b c (by simp));rw[Nu,e];have:=ih (10*a+(c.toNat-48)) (m+1) (fun d hdm=>b d (by simp[hdm])) (by omega) (by rw[Int.pow_succ];omega) (by simp at j;omega);rw[Bb,show m+(Z l+1)=m+1+Z l by omega];exact this
 have:=g l 0 0 b (by omega) (by decide) (by omega);unfold num;refine⟨this.1,?_⟩;have o:(10:Ak) ^ (0+Z l)<=100000:=by
  have:Z l<=5:=i;generalize (Z l)=m at*
  match m,this with
  |0,_=>decide
  |1,_=>decide
  |2,_=>decide
  |3,_=>decide
  |4,_=>decide
  |5,_=>decide
 omega
theorem span_all (p:Ak->Bool)(l:A Ab):∀c∈l.take (span p l),p c.toNat=true:=by
 induction l <;> grind[span]
theorem tok_num (l:A Ab)(i:Ad)(d:i<Z l)(h:(tend l i).2=49):0<=num (tok l i).s/\num (tok l i).s<=99999:=by
 have f:(tok l i).s=(l.drop i).take ((tend l i).1-i):=by unfold tok;rw[h];rfl
 rw[f];unfold tend at h ⊢
 split at h
 ·simp at h
 ·rename_i h1
  rw[Aw h1]
  split at h
  ·rename_i h2
   rw[Az h2]
   split at h
   ·simp at h
   ·rename_i h3
    rw[Aw h3];simp only;rw[Ed d,show i+1+span digitI (l.drop (i+1))-i=span digitI (l.drop (i+1))+1 by omega,Fk];have a:Z (l[i]::(l.drop (i+1)).take (span digitI (l.drop (i+1))))<=5:=by
     rw[Bb,Cq];omega
    refine num_le _ ?_ a;intro c b;rcases En.1 b with rfl|b
    ·unfold at0 at h2;rw[Gf,Bd d] at h2;exact h2
    ·exact span_all _ _ c b
  ·split at h
   ·split at h <;> simp at h
   ·split at h <;> simp at h
theorem tok_len (l:A Ab)(i:Ad):Z (tok l i).s<=Z l:=by grind[tok]
theorem toksGo_ok (l:A Ab):∀(n i:Ad),Z l+1-i<=n->i<=Z l->
  0<Z (toksGo n l i)/\(Z (toksGo n l i))<=Z l+1-i/\
  (∀(k:Ad) (t:Tok),(toksGo n l i)[k]?=V t->t.k≠0->t.k≠120->k+1<Z (toksGo n l i))/\
  (∀(k:Ad) (t:Tok),(toksGo n l i)[k]?=V t->Z t.s<=Z l/\(t.k=49->0<=num t.s/\num t.s<=99999)):=by
 intro n
 induction n with
 |zero=>intro i r u;omega
 |succ n ih=>
  intro i r u
  by_cases j:i<Z l
  ·by_cases o:at0 l i=32\/at0 l i=10
   ·rw[toksGo_blank j o]
    obtain⟨a,b,c,d⟩:=ih (i+1) (by omega) (by omega);exact⟨a,by omega,c,d⟩
   ·have q:=tend_bd l i j
    by_cases p:(tend l i).2=120
    ·rw[toksGo_bad j o p]
     refine⟨by simp,by simp;omega,?_,?_⟩
     ·intro k t f _ g
      match k with
      |0=>simp at f;subst f;exact absurd p g
      |k+1=>simp at f
     ·intro k t f
      match k with
      |0=>simp at f;subst f;exact⟨tok_len l i,fun h=>tok_num l i j h⟩
      |k+1=>simp at f
    ·rw[toksGo_good j o p]
     obtain⟨a,b,c,d⟩:=ih (tend l i).1 (by omega) q.2.1;refine⟨by simp,by rw[Bb];omega,?_,?_⟩
     ·intro k t f m g
      rw[Bb]
      match k with
      |0=>omega
      |k+1=>
       rw[Xb] at f;have:=c k t f m g
       omega
     ·intro k t f
      match k with
      |0=>simp at f;subst f;exact⟨tok_len l i,fun h=>tok_num l i j h⟩
      |k+1=>rw[Xb] at f;exact d k t f
  ·rw[toksGo_end j]
   refine⟨by simp,by simp;omega,?_,?_⟩
   ·intro k t f m _
    match k with
    |0=>simp at f;subst f;exact absurd rfl m
    |k+1=>simp at f
   ·intro k t f
    match k with
    |0=>simp at f;subst f;exact⟨by simp,fun h=>by simp at h⟩
    |k+1=>simp at f
theorem toks_ok (l:A Ab)(h:Z l<=3000):Ok (toks l)/\0<Z (toks l):=by
 obtain⟨a,b,c,d⟩:=toksGo_ok l (Z l+1) 0 (by omega) (by omega);refine⟨⟨c,?_,fun k t ht=>?_,fun k t ht hk=>(d k t ht).2 hk⟩,a⟩
 ·unfold toks;omega
 ·have:=(d k t ht).1;omega
end R
theorem zb0 (a b c:Aj)(w:Ag):(Instr.field 115 (Fe #[a,b,c]) 0).run prog w = .ok a w:=by kernel_rfl
theorem aK {d:A Fp}(h:All2 (HostVal w) a d)(k:Ad)(f:k<Z d):∃b,a.flatten[k*2+1]?=V b/\RulesRow w b d[k].rules:=by
 induction h generalizing k with
 |nil=>simp at f
 | @cons c r cs rs hc _ ih=>
  obtain⟨b,rfl,j⟩:=hc
  match k with
  |0=>exact⟨b,rfl,j⟩
  |k+1=>
   obtain⟨v,g,i⟩:=ih k (by simpa using f);refine⟨v,?_,i⟩;rw[Ci,Cl (by simp;omega)];simp only[Bb,Bu];rw[show(k+1)*2+1-(0+1+1)=k*2+1 by omega];exact g
variable {v:Aj}
theorem zg6 {b:A Gn}(h:RulesRow w v b):∃a c,v=X a (Z b) c:=by
 obtain⟨d,f,_⟩:=h;exact zL f
def hcount (w:Ag)(rb:Ad):Ad:=match w.cell? ⟨rb,5,S⟩ with|some v=>lenOf v|none=>0
theorem rW {a:Ad}{ts:A R.Tok}{st:R.St}{H:Aj}(h:RInv w rb g a ts st H):hcount w rb=lenOf H:=by
 unfold hcount;rw[show w.cell? ⟨rb,5,S⟩=V H from zB h.rd]
theorem bP (ts:A R.Tok)(n:Ad):∀(st:R.St) (a:A Gn),Z (Nd ts n st a).1+st.K<=Z a+(Nd ts n st a).2.K:=by
 induction n with
 |zero=>intro st a;exact Aq _
 |succ n ih=>
  intro st a;unfold Nd;split
  ·rename_i h
   have c:=R.ruleS_K ts st (Z a) (a.map R.Rl.number) h;have b:=ih (R.ruleS ts st (Z a) (a.map R.Rl.number)).2 (a++[(R.ruleS ts st (Z a) (a.map R.Rl.number)).1]);rw[Ah] at b;simp only[Bb,Bu] at b;omega
  ·exact Aq _
theorem pN (ts:A R.Tok)(st:R.St)(l:A (A Ab)):Z (Mm ts st l).1.rules<=(Mm ts st l).2.K:=by
 unfold Mm R.hsB;simp only;have a:=bP ts (Z ts+1) (Cg ts (R.hsA ts st l).2 [123]) []
 grind[Mm,R.hsB,bP,Cg,R.hsA,R.needS_K,Nd,List.length_nil,R.Tok,R.St]
def qd (a b:A Ab):Bool:=Op.bytesLess a b
theorem wk (a b:A Ab):Op.bytesLess (Aa a).toList (Aa b).toList=qd a b:=by simp_all[Aa,qd]
def hU (h:Fp)(out:A Fp):Ad:=Z (out.takeWhile fun o=>qd o.name h.name)
def uG (out:A Fp)(h:Fp):A Fp:=out.take (hU h out)++[h]++out.drop (hU h out)
def qx (hs:A Fp):A Fp:=hs.foldl (fun out h=>uG out ⟨h.name,zf h.rules⟩) []
theorem zhG:(prog.info? 119).map (fun i=>(i.zero,i.size,i.bytes))=V (V (Fe #[I ⟨#[]⟩,X S 0 0]),2,40):=by kernel_rfl
theorem zhI (out:A Fp)(r:Fp):Z (uG out r)=Z out+1:=by grind[uG,Fp]
theorem zcA (l:A Fp)(r:Fp):qx (l++[r])=uG (qx l) ⟨r.name,zf r.rules⟩:=by
 unfold qx;rw[Mb];rfl
theorem dq (l:A Fp):Z (qx l)=Z l:=by
 unfold qx;have:∀(l out:A Fp),Z (l.foldl (fun out h=>uG out ⟨h.name,zf h.rules⟩) out)=Z out+Z l:=by
  intro l
  induction l with
  |nil=>intro out;rfl
  |cons a l ih=>intro out;rw[Nu,ih,zhI];simp;omega
 rw[this];simp
theorem fV {a:A Aj}{r:Fp}(h:HostVal w a r):∀u∈a,u.oneCell'=true:=by
 obtain⟨f,rfl,c,d,_⟩:=h;obtain⟨_,_,rfl⟩:=zL d;intro u b;simp at b;rcases b with rfl|rfl <;> rfl
theorem dR {b:A Fp}(h:All2 (HostVal w) a b):∀u∈a.flatten,u.oneCell'=true:=by
 induction h <;> grind[List.flatten_cons,fV,Fp,All2,HostVal]
theorem il {a:A Aj}{r:Fp}(h:HostVal w a r):Z a=2:=by
 obtain⟨b,rfl,_⟩:=h;rfl
theorem ti {b:A Fp}(h:All2 (HostVal w) a b)(k:Ad):(a.take k).flatten=a.flatten.take (k*2):=by
 induction h generalizing k with
 |nil=>simp
 | @cons c r cs b h _ ih=>
  match k with
  |0=>simp
  |k+1=>
   have e:=il h;rw[Fk,Ci,Ci,ih k,List.take_append,e,Cc (l:=c) (by omega),show(k+1)*2-2=k*2 by omega]
theorem tf {b:A Fp}(h:All2 (HostVal w) a b)(k:Ad):(a.drop k).flatten=a.flatten.drop (k*2):=by
 induction h generalizing k with
 |nil=>simp
 | @cons c r cs b h _ ih=>
  match k with
  |0=>simp
  |k+1=>
   have e:=il h;rw[In,Ci,ih k,List.drop_append,e,Ga (l:=c) (by omega),show(k+1)*2-2=k*2 by omega];rfl
def xg (l:A Ab):Ak×Ak:=
 if 3000<Z l then (1,0) else if 0<=(R.readS l).2.bad then (2,(R.readS l).2.bad) else ((R.readS l).2.E,if (R.readS l).2.E=0 then 0 else (R.readS l).2.at_)
abbrev Fo2:=Ae #[I ⟨#[]⟩,X S 0 0] 119
abbrev Fo3 (a b c):=Ae #[X (V ⟨b,0,S⟩) a c,O Ai 0,O Ai (-1),O Ai 0,O Ai 0,X S 0 0] 113
theorem bA (s:As)(w:Ag)(bP:s.size<=Bh) :
  Am prog 34 #[I s] w fun e w'=>∃v,e=Af (Cm #[v,O Ai (xg s.data.toList).1,O Ai (xg s.data.toList).2])/\Ms w.heap.size w w'/\((xg s.data.toList).1=0->HostsRow w' w.heap.size v (qx (R.readS s.data.toList).1)):=by
 unfold Bh at bP;obtain⟨i0,hi,an,ao,ap⟩:=Ej zhG
 by_cases bh:3000<s.size
 ·have HE:Y (xg s.data.toList=(1,0)):=by show xg _=_;unfold xg;rw[Az (by rw[Cp];exact bh)]
  go_in;go_wp2
  go_ret3
  exact⟨_,by rw[HE.o];rfl,Vw _ _,fun h=>absurd h (by rw[HE.o];decide)⟩
 ·have bm:s.size<=3000:=by omega
  have af:Y (xg s.data.toList=if 0<=(R.readS s.data.toList).2.bad then (2,(R.readS s.data.toList).2.bad) else ((R.readS s.data.toList).2.E,if (R.readS s.data.toList).2.E=0 then 0 else (R.readS s.data.toList).2.at_)):=by
   show xg _=_;unfold xg;rw[Aw (by rw[Cp];exact bh)]
  have bu:Y (R.readS s.data.toList=R.hsLoop (Vg s.data.toList) (Z (Vg s.data.toList)+2) R.st0 []):=rfl;obtain⟨a9,bk⟩:=R.toks_ok s.data.toList (by rw[Cp];exact bm);have bs:=J a9;have bv:Y (∀w,Am prog 50 #[I s] w fun e w'=>∃v,e=Af v/\w'.ownsRow w.heap.size 115 3 v (Z (Vg s.data.toList)) (R.tokCells (Vg s.data.toList))/\Ms w.heap.size w w'):=fun w=>zbY s w bm
  generalize Vg s.data.toList=ts at*;generalize xg s.data.toList=er at*;generalize R.readS s.data.toList=rd at*;go_in;go_wp2_with fail;refine(bv.o w).mono ?_;rintro e w1 ⟨v,rfl,bj,aZ⟩;obtain⟨g,am,rfl,ck,bL⟩:=Bm bj bk;have bB:RInv (w1.alloc (Fo3 (Z ts) g am)) w1.heap.size g am ts R.st0 (X S 0 0):=by
   refine⟨Bn _ _,?_,by omega,bk,bs.o⟩;rcases bj.2 with ⟨h1,_⟩ | ⟨g',cap',cur,h1,_,h2,_,_,_,h3⟩
   ·cases h1
   ·simp only[Au,Ey,Qo] at h1
    obtain⟨⟨rfl,_⟩,_,_⟩:=h1;exact⟨cur,by rw[Below.heap_alloc _ _ _ bL];exact h2,h3⟩
  have bn:Y (Ms w.heap.size w (w1.alloc (Fo3 (Z ts) g am))):=aZ.alloc aZ.size _;have br:=J bB;have bT:=aZ.size;go_wp2_with fail;generalize cr:w1.heap.size=rb at*;generalize Eo w1 (Fo3 (Z ts) g am)=wB at*
  go_loopw [] (fun wr=>∃(n:Ad) (y:A Fp) (st:R.St) (H:Aj),Y (R.hsLoop ts n st y=rd)/\(Z y)<=st.K+1/\(st.bad<0->Z y<=st.K)/\(Z ts)+1<n+Z y/\Y (RInv wr rb g am ts st H)/\Y (HostsRow wr w.heap.size H y)/\Y (Ms w.heap.size w wr)/\Y (∀h∈y,Z h.rules<=4000)) (fun wr=>Z ts+2 - hcount wr rb)
  case atStart=>exact⟨Z ts+2,[],R.st0,_,bu.o.symm,by simp,fun _=>by simp,by simp,br,⟨[],Bk _ _ _ _,.nil⟩,bn,fun h d=>by simp at d⟩
  case round=>
   obtain⟨n,y,st,H,HL,cp,a7,hn,IR,HH,HB,bd⟩:=hrel;have cc:=zO IR.o.rd;have c2:wr.cell? ⟨rb,2,S⟩=V (O Ai st.bad):=zB IR.o.rd;have cq:=IR.o.lt;have ct:=IR.o.ok.len;have ch:=zb0;obtain⟨n,rfl⟩:∃m,n=m+1:=⟨n - 1,by omega⟩;have aw:=HL.o;rw[R.hsLoop] at aw
   by_cases aj:st.bad<0/\(Bj ts st).k≠0
   ·rw[Az aj] at aw
    have hb:=aj.1;have bg:((Bj ts st).k != 0)=true:=by rw[Qv];exact aj.2
    have ci:=R.hostS_K ts st (y.map R.Hst.name);have cj:=R.hostS_go ts st (y.map R.Hst.name) hb;have cD:=a7 hb;have bY:Y (hcount wr rb=Z y):=by
     show hcount wr rb=_;rw[rW IR.o];obtain⟨bw,h1,_⟩:=HH.o;exact kM h1
    go_wp2_with fail;refine(ur IR.o IR.o.cur).mono ?_;rintro e w2 ⟨rfl,hg⟩;have J2:=J (IR.o.keep hg);have aU:Y (HostsRow w2 w.heap.size H y):=HH.o.keep hg (za _ _);have aG:=J (HB.o.trans ((qh hg).mono HB.o.size));go_wp2_with fail;refine(ziK J2.o y aU.o bT (by omega)).mono ?_;rintro e w3 ⟨rfl,bE,H3,I3,bz⟩;have J3:=J I3;have bq:=J bz;have aq:Y (Ms w.heap.size w w3):=aG.o.trans bE;have bX:=J aw;have bV:Y (hcount w3 rb=Z y+1):=by
     show hcount w3 rb=_;rw[rW J3.o];obtain⟨bw,h1,_⟩:=bq.o;rw[kM h1];simp
    have b9:Y (∀h∈y++[(Mm ts st (y.map R.Hst.name)).1],Z h.rules<=4000):=by
     intro h d;rcases Ea.1 d with d | d
     ·exact bd.o h d
     ·simp at d;subst d
      have h1:=pN ts st (y.map R.Hst.name);have h2:=J3.o.lt
      omega
    go_wp2
    go_roundw
    case rel=>exact⟨n,y++[(Mm ts st (y.map R.Hst.name)).1],_,H3,bX,by rw[Ah];simp;omega,fun h=>by rw[Ah];have:=cj h;simp;omega,by rw[Ah];simp;omega,J3,bq,aq,b9⟩
    case measure=>rw[bV.o,bY.o];omega
   ·rw[Aw aj] at aw
    have ax:Y (rd.1=y):=by rw[<-aw];rfl
    have ay:Y (rd.2=st):=by rw[<-aw];rfl
    rw[ay.o] at af;have c3:wr.cell? ⟨rb,3,S⟩=V (O Ai st.E):=zB IR.o.rd;have c4:wr.cell? ⟨rb,4,S⟩=V (O Ai st.at_):=zB IR.o.rd
    by_cases hb:0<=st.bad
    ·rw[Az hb] at af
     go_wp2
     go_region
     go_wp2
     go_ret3
     exact⟨_,by rw[af.o];rfl,HB.o.drew,fun h=>absurd h (by rw[af.o];exact(by decide:¬(2:Ak)=0))⟩
    ·have bg:(Bj ts st).k=0:=by
      apply Ng;intro h;exact aj ⟨by omega,h⟩
     have cn:((Bj ts st).k != 0)=false:=by rw[bg];rfl
     rw[Aw hb] at af;have cg:st.bad<0:=by omega
     go_wp2_with fail;refine(ur IR.o IR.o.cur).mono ?_;rintro e w2 ⟨rfl,hg⟩;have J2:=J (IR.o.keep hg);have aU:Y (HostsRow w2 w.heap.size H y):=HH.o.keep hg (za _ _);have aG:=J (HB.o.trans ((qh hg).mono HB.o.size));have d2:w2.cell? ⟨rb,2,S⟩=V (O Ai st.bad):=zB J2.o.rd;have d3:w2.cell? ⟨rb,3,S⟩=V (O Ai st.E):=zB J2.o.rd;have d4:w2.cell? ⟨rb,4,S⟩=V (O Ai st.at_):=zB J2.o.rd
     by_cases hE:st.E=0
     ·rw[Az hE] at af
      have bx:(st.E != 0)=false:=by rw[hE];rfl
      have bp:=J (hE);obtain⟨bw,bl,bD⟩:=aU.o;obtain⟨ha,hc,rfl⟩:=zL bl;have aW:=J bl;have ba:=J bD;obtain⟨wo,cu⟩:∃x,x=w2:=⟨w2,rfl⟩;subst cu;go_wp2_with fail
      go_loopw [6,7] (fun vv iv wz=>∃(i:Ad) (Q:A (A Aj)),i<=Z y/\iv=O Ai i/\Y (wz.ownsRow w.heap.size 119 2 vv i Q.flatten)/\Y (All2 (HostVal wz) Q (qx (y.take i)))/\Y (RInv wz rb g am ts st (X ha (Z y) hc))/\Y (wo.grownBy wz S)) (fun _ iv _=>Z y - (intOf iv).toNat)
      case atStart=>exact⟨0,[],Ax _,rfl,Bk _ _ _ _,.nil,J2,zP _ _⟩
      case round=>
       obtain⟨i,Q,cm,rfl,HO,HA,IZ,HZ⟩:=hrel;obtain⟨oa,oc,rfl⟩:=zL HO.o;have b5:wr.cell? ⟨rb,5,S⟩=V (X ha (Z y) hc):=zB IZ.o.rd
       by_cases a8:i<Z y
       ·obtain⟨gh,cw,bK,_,cl⟩:=Bm aW.o (by omega)
        simp only[Au] at bK;obtain⟨rfl,_,rfl⟩:=bK;obtain⟨vR,bQ,bC⟩:=aK ba.o i a8;have bM:=bd.o y[i] (Cr a8);have bt:Y (RulesRow wr vR y[i].rules):=bC.keep HZ.o (za _ _);obtain⟨cv,bN,cf⟩:=bC;obtain⟨ra,rc,rfl⟩:=zL bN;have e0:wr.cell? ⟨gh,i*2,S⟩=V (I (Aa y[i].name)):=by
         refine HZ.o.cell (a:=⟨gh,i*2,S⟩) ?_ (by simp);rw[Ap aW.o (i*2) (by omega),wV ba.o i a8]
        have e1:wr.cell? ⟨gh,i*2+1,S⟩=V (X ra y[i].rules.length rc):=by
         refine HZ.o.cell (a:=⟨gh,i*2+1,S⟩) ?_ (by simp);rw[Ap aW.o (i*2+1) (by omega),bQ]
        have cA:(i:Ak)<Z y:=by omega
        have cz:gh<wr.heap.size:=by have h:=HZ.o.size;omega
        have cE:=zO IZ.o.rd;have HS:Y (qx (y.take (i+1))=uG (qx (y.take i)) ⟨y[i].name,zf y[i].rules⟩):=by
         show qx _=_;rw[Co a8,zcA]
        have bO:Z (qx (y.take i))=i:=by rw[dq,Cq];omega
        have cy:Z Q=i:=by rw[HA.o.len,bO]
        generalize qx (y.take i)=out at*;generalize y[i]=d at*;have ca:Y (wr.grownBy (Md (Eo wr Fo2)) S):=zD (Ac _ _ _) (zV _);have bZ:Y ((Md (Eo wr Fo2)).heap[wr.heap.size]?=V Fo2):=Bn wr _;go_wp2
        go_cut [8] from 62 to 79 (fun s8 wx=>∃(b8:Ad) (q:Br Addr) (r:Ad),s8=Al (V ⟨b8,0,S⟩)/\Y (wx.heap[b8]?=V (Ae #[I (Aa d.name),X q (Z (zf d.rules)) r] 119))/\Y (RulesRow wx (X q (Z (zf d.rules)) r) (zf d.rules))/\Y (wr.grownBy wx S)/\wr.heap.size<=b8)
        case first=>
         have bo:Y (∀W,wr.grownBy W S->Am prog 53 #[X ra (Z d.rules) rc] W fun e w'=>∃q r,e=Af (X q (Z (zf d.rules)) r)/\wr.grownBy w' S/\RulesRow w' (X q (Z (zf d.rules)) r) (zf d.rules)/\W.grownBy w' S):=fun W hW=>
          (zc0 (X ra (Z d.rules) rc) d.rules (bt.o.keep hW (za _ _)) bM).mono (by rintro e wS ⟨vS,rfl,bF,aC⟩;obtain⟨q,r,rfl⟩:=zg6 aC;exact⟨q,r,rfl,zD hW (zt bF),aC,zt bF⟩)
         have p0:rb≠wr.heap.size:=by omega
         have p1:gh≠wr.heap.size:=by omega
         go_region_held3 (fun W=>W.cell? ⟨rb,5,S⟩=V (Fo1 (Z y) gh hc)/\W.cell? ⟨gh,i*2,S⟩=V (I (Aa d.name))/\W.cell? ⟨gh,i*2+1,S⟩=V (X ra (Z d.rules) rc)) (go_keep) (first
          | (go_at_call 53;show Am _ _ _ (Md (Eo wr Fo2)) _;refine(bo.o _ (zD (Ac _ _ _) (zV _))).mono ?_;rintro e wS ⟨q,r,rfl,ai,aC,a0⟩;have bf:=J aC;have aY:=J ai;have p5:wS.cell? ⟨rb,5,S⟩=V (Fo1 (Z y) gh hc):=ai.cell b5 (by simp);have p6:wS.cell? ⟨gh,i*2,S⟩=V (I (Aa d.name)):=ai.cell e0 (by simp);have p7:wS.cell? ⟨gh,i*2+1,S⟩=V (X ra (Z d.rules) rc):=ai.cell e1 (by simp);have ag:Y (wS.heap[wr.heap.size]?=V Fo2):=zE bZ.o a0 (by simp);have cF:wS.cell? ⟨wr.heap.size,0,S⟩=V (I ⟨#[]⟩):=zB ag.o;have cG:wS.cell? ⟨wr.heap.size,1,S⟩=V (X S 0 0):=zB ag.o;have cH:wS.frozen? ⟨wr.heap.size,0,S⟩=false:=zG ag.o;have cI:wS.frozen? ⟨wr.heap.size,1,S⟩=false:=zG ag.o;have n5:wr.heap.size≠rb:=Ne.symm p0;have n6:wr.heap.size≠gh:=Ne.symm p1;clear ai aC a0)
          | (go_at_call 53;show Am _ _ _ (Md wr) _;refine(bo.o _ (zV wr)).mono ?_;rintro e wS ⟨q,r,rfl,ai,aC,a0⟩;have bf:=J aC;have aY:=J ai;have p5:wS.cell? ⟨rb,5,S⟩=V (Fo1 (Z y) gh hc):=ai.cell b5 (by simp);have p6:wS.cell? ⟨gh,i*2,S⟩=V (I (Aa d.name)):=ai.cell e0 (by simp);have p7:wS.cell? ⟨gh,i*2+1,S⟩=V (X ra (Z d.rules) rc):=ai.cell e1 (by simp);have n5:wS.heap.size≠rb:=World.new_ne wS _ p5;have n6:wS.heap.size≠gh:=World.new_ne wS _ p6;clear ai aC a0))
         ·go_wp2_with fail
          go_meet
          case rel=>exact⟨wS.heap.size,q,r,rfl,Bn _ _,RulesRow.keep bf.o (Ac _ _ _) (za _ _),zD aY.o (Ac _ _ _),aY.o.size⟩
         ·have bJ:=zD (zF wS wr.heap.size 0 (I (Aa d.name))) (zF _ wr.heap.size 1 (X q (Z (zf d.rules)) r))
          go_wp2_with fail
          go_meet
          case rel=>exact⟨wr.heap.size,q,r,rfl,zH (zH ag.o _) _,RulesRow.keep bf.o bJ (xQ ag.o (by decide)),ze aY.o bJ (Aq _),Aq _⟩
        case rest=>
         obtain⟨b8,q,r,rfl,ag,bc,aP,cx⟩:=hcut;have b7:Y (wc.ownsRow w.heap.size 119 2 (X oa i oc) i Q.flatten):=zK HO.o aP.o (fun k hk c=>by cases c);have aT:Y (All2 (HostVal wc) Q out):=HA.o.map fun a b hab=>hab.keep aP.o (za _ _)
         have aX:=J (zD HZ.o aP.o);have bb:=J (IZ.o.keep aP.o);have zc:=Bi aG.o.size aX.o.size;have cb:wc.cell? ⟨b8,0,S⟩=V (I (Aa d.name)):=zB ag.o;go_wp2
         go_loopw [9] (fun kv wz=>∃k:Ad,k<=i/\kv=O Ai k/\Y (∀j (hj:j<k) (ho:j<Z out),qd out[j].name d.name=true)/\Y (wc.grownBy wz S)) (fun kv _=>i - (intOf kv).toNat)
         case atStart=>exact⟨0,Ax _,rfl,fun j hj=>absurd hj (by omega),zP _ _⟩
         case round=>
          obtain⟨k,co,rfl,HK,aI⟩:=hrel;have aQ:Y (wr.ownsRow w.heap.size 119 2 (X oa i oc) i Q.flatten):=zK b7.o aI.o (fun k hk c=>by cases c);have d1:=aI.o.cell cb (by simp);have bU:Y (All2 (HostVal wr) Q out):=aT.o.map fun a b hab=>hab.keep aI.o (za _ _)
          by_cases hk:k<i
          ·obtain⟨go,cd,aj,_,_⟩:=Bm aQ.o (by omega)
           simp only[Au] at aj;obtain⟨rfl,_,rfl⟩:=aj;have cB:(k:Ak)<i:=by omega
           have d2:wr.cell? ⟨go,k*2,S⟩=V (I (Aa out[k].name)):=by
            have bI:=Ap aQ.o (k*2) (by omega);rw[wV bU.o k (by omega)] at bI;exact bI
           by_cases aO:qd out[k].name d.name=true
           ·have bW:Y (∀j (hj:j<k+1) (ho:j<Z out),qd out[j].name d.name=true):=by
             intro j hj ho
             by_cases e:j=k
             ·subst e;exact aO
             ·exact HK.o j (by omega) ho
            have bi:=wk out[k].name d.name;rw[aO] at bi;generalize a9:out[k].name=ok at*;go_wp2_with fail;go_quiet (fail);go_wp2;exact⟨⟨k+1,by omega,by go_num,bW,zD aI.o (x3 _ _)⟩,by simp[intOf];omega⟩
           ·have aV:Y (hU ⟨d.name,zf d.rules⟩ out=k):=ku _ _ _ (by omega) (fun j hj=>HK.o j hj (by omega)) (fun _=>by simpa using aO)
            have bi:=wk out[k].name d.name;rw[show qd out[k].name d.name=false by simpa using aO] at bi;go_wp2_with fail;go_quiet (fail);have C:=zD aI.o (x3 wr nq);have B:Y _:=zK aQ.o (x3 wr nq) (fun k hk c=>by cases c);have aa:Y (All2 (HostVal (wr.drewN nq)) Q out):=aT.o.map fun a b hab=>hab.keep C (za _ _)
            have aJ:=J (RInv.keep bb.o C);have aN:=J (zD aX.o C);have ak:=J (zE ag.o C (by simp));have aM:Y (RulesRow (wr.drewN nq) (X q (Z (zf d.rules)) r) (zf d.rules)):=RulesRow.keep bc.o C (za _ _);have zq:=Bi zc C.size;generalize wr.drewN nq=wq at*;have H0:Y (wq.cell? ⟨b8,0,S⟩=V (I (Aa d.name))):=zB ak.o;have H1:Y (wq.cell? ⟨b8,1,S⟩=V (X q (Z (zf d.rules)) r)):=zB ak.o;have ah:Y (HostVal wq [I (Aa d.name),X q (Z (zf d.rules)) r] ⟨d.name,zf d.rules⟩):=⟨_,rfl,aM.o⟩;have HW:Y (∀j u,(Q.flatten)[j]?=V u->wq.cell? ⟨go,j,S⟩=V u):=by
             intro j u z;have ab:=(Bo.1 z).1;rw[B.o.1] at ab;rw[Ap B.o j ab];exact z
            have aA:=uA B.o;unfold Bh at aA;obtain⟨bG,bH⟩:=aA;have ar:=J (B.o.1);have aL:=J (dR aa.o);go_wp2_with (at_builtin;refine Cu _ rfl _ _ 67 rfl (wq.heap.size) 119 i0 _ 2 40 underlying67 hi an ao ap rfl (by decide) _ _ _ rfl (Bk _ _ _ _) ⟨go,0,S⟩ k oc (Q.flatten.take (k*2)) rfl ?a1 ?a2 ?a3 ?a4 ?a5 ?a6 ?_)
            case a1=>rw[Cq,ar.o];omega
            case a2=>
             intro j u z;rw[uk];rw[Gi] at z
             split at z
             ·exact HW.o j u z
             ·cases z
            case a3=>exact fun u z=>aL.o u (Oi z)
            case a4=>unfold Bh;omega
            case a5=>omega
            case a6=>exact Aq _
            intro v1 w1 N o _;obtain⟨aR,aS,rfl⟩:=zL N;have g1:wq.grownBy w1 S:=o;have ad:=J N;have ax:Y _:=zK B.o o (fun k hk c=>by cases c);have z1:=o.size;have d0:=g1.cell H0.o (by simp);have d1:=g1.cell H1.o (by simp);have au:=J g1;go_wp2_with (at_builtin;refine Ei _ rfl _ _ 67 rfl (wq.heap.size) 119 i0 _ 2 40 underlying67 hi an ao ap rfl (by decide) _ _ _ rfl (Ao ad.o _) ⟨w1.heap.size,0,S⟩ 1 1 [I (Aa d.name),X q (Z (zf d.rules)) r] rfl rfl ?c1 ?c2 (by decide) ?c3 ?c4 ?c5 (w1.heap.size+1) (by simp) ?_)
            case c1=>exact zZ _ #[_,_] _ _ (by simp)
            case c2=>exact fV ah.o
            case c3=>unfold Bh;omega
            case c4=>omega
            case c5=>simp;omega
            intro g2 az w2 t f _ _;have ae:=J t;have ay:Y _:=zK (Ao ax.o _) f (fun k hk c=>by have h1:=(An B.o k hk).2;have h2:=(An ad.o k c).1;omega);have z2:w1.heap.size+1<=w2.heap.size:=by have h:=f.size;simpa using h
            have av:=J f;have be:Y (∀j u,(Q.flatten)[j]?=V u->w2.cell? ⟨go,j,S⟩=V u):=by
             intro j u z;have ab:=(Bo.1 z).1;rw[B.o.1] at ab;rw[Ap ay.o j ab];exact z
            go_wp2_with (at_builtin;refine Cu _ rfl _ _ 67 rfl (wq.heap.size) 119 i0 _ 2 40 underlying67 hi an ao ap rfl (by decide) _ _ _ rfl ae.o ⟨go,k*2,S⟩ (i - k) (oc - k) (Q.flatten.drop (k*2)) rfl ?b1 ?b2 ?b3 ?b4 ?b5 ?b6 ?_)
            case b1=>rw[Cy,ar.o];omega
            case b2=>
             intro j u z;rw[Vq] at z;have:=be.o (k*2+j) u z;unfold Qp
             split
             ·rename_i h0;subst h0;exact this
             ·exact this
            case b3=>exact fun u z=>aL.o u (List.mem_of_mem_drop z)
            case b4=>unfold Bh;omega
            case b5=>omega
            case b6=>omega
            intro v3 w3 aB p _;have gA:=Ac w1 (Ae #[I (Aa d.name),X q (Z (zf d.rules)) r] 119) S;have aD:Safe (w1.alloc (Ae #[I (Aa d.name),X q (Z (zf d.rules)) r] 119)) (X aR k aS).ownBlock rtags:=xk (Ao ad.o _) (by decide);have aE:Safe w2 (X (V ⟨g2,0,S⟩) (k+1) az).ownBlock rtags:=xk ae.o (by decide);have kp:∀a b,HostVal wq a b->HostVal w3 a b:=fun a b hab=>(((hab.keep au.o (za _ _)).keep gA (za _ _)).keep av.o aD).keep p aE
            have aF:Y (All2 (HostVal w3) (Q.take k++([[I (Aa d.name),X q (Z (zf d.rules)) r]]:A (A Aj))++Q.drop k) (qx (y.take (i+1)))):=by
             rw[HS.o];unfold uG;rw[aV.o];exact((aa.o.take k).append (.cons ah.o .nil) |>.append (aa.o.drop k)).map kp
            have al:Y (w3.ownsRow w.heap.size 119 2 v3 (i+1) (Q.take k++([[I (Aa d.name),X q (Z (zf d.rules)) r]]:A (A Aj))++Q.drop k).flatten):=by
             rw[Eg,Eg,ti aa.o,tf aa.o,show i+1=k+1+(i - k) by omega,show([[I (Aa d.name),X q (Z (zf d.rules)) r]]:A (A Aj)).flatten=[I (Aa d.name),X q (Z (zf d.rules)) r] from rfl,Bl];exact zo aB zq
            have F:wq.grownBy w3 S:=by
             refine zt ?_;have b1:=qh au.o;have b2:=(b1.alloc (by omega) (Ae #[I (Aa d.name),X q (Z (zf d.rules)) r] 119)).grown av.o (by simp;omega) (fun k hk=>by have:=(An ad.o k hk).1;omega);exact b2.grown p (by omega) (fun k hk=>by have:=(An ae.o k hk).1;omega)
            have aq:Y (wo.grownBy w3 S):=zD aN.o F;have aH:Y (RInv w3 rb g am ts st (Fo1 (Z y) gh hc)):=RInv.keep aJ.o F;obtain⟨bR,bS,rfl⟩:=zL al.o;go_wp2
            go_roundw
            case rel=>exact⟨i+1,_,by omega,by go_num,al,aF,aH,aq⟩
            case measure=>simp[intOf];omega
          ·have aV:Y (hU ⟨d.name,zf d.rules⟩ out=k):=ku _ _ _ (by omega) (fun j hj=>HK.o j hj (by omega)) (fun h=>by omega)
           obtain rfl:k=i:=by omega
           have ce:=aQ.o.2;rcases ce with ⟨hnil,hi0⟩ | ⟨go,cd,cur,hsl,_,_,_⟩
           ·simp only[Au] at hnil
            obtain⟨rfl,rfl,rfl⟩:=hnil;go_wp2_with fail;go_quiet (fail);have C:=zD aI.o (x3 wr nq);have aa:Y (All2 (HostVal (wr.drewN nq)) Q out):=aT.o.map fun a b hab=>hab.keep C (za _ _)
            have aJ:=J (RInv.keep bb.o C);have aN:=J (zD aX.o C);have ak:=J (zE ag.o C (by simp));have aM:Y (RulesRow (wr.drewN nq) (X q (Z (zf d.rules)) r) (zf d.rules)):=RulesRow.keep bc.o C (za _ _);have zq:=Bi zc C.size;generalize wr.drewN nq=wq at*;have H0:Y (wq.cell? ⟨b8,0,S⟩=V (I (Aa d.name))):=zB ak.o;have H1:Y (wq.cell? ⟨b8,1,S⟩=V (X q (Z (zf d.rules)) r)):=zB ak.o;have ah:Y (HostVal wq [I (Aa d.name),X q (Z (zf d.rules)) r] ⟨d.name,zf d.rules⟩):=⟨_,rfl,aM.o⟩;have d0:=H0.o;have d1:=H1.o;go_wp2_with (first
             | (at_builtin;refine Qa rfl _ _ 67 rfl (wq.heap.size) 119 i0 2 underlying67 hi _ _ _ rfl (Bk _ _ _ _) rfl ?_)
             | (at_builtin;refine Ei _ rfl _ _ 67 rfl (wq.heap.size) 119 i0 _ 2 40 underlying67 hi an ao ap rfl (by decide) _ _ _ rfl (Bk _ _ _ _) ⟨wq.heap.size,0,S⟩ 1 1 [I (Aa d.name),X q (Z (zf d.rules)) r] rfl rfl ?c1 ?c2 (by decide) ?c3 ?c4 ?c5 (wq.heap.size+1) (by simp) ?_))
            case c1=>exact zZ _ #[_,_] _ _ (by simp)
            case c2=>exact fV ah.o
            case c3=>unfold Bh;omega
            case c4=>omega
            case c5=>simp
            intro g2 az w2 t f _ _;have ae:Y (w2.ownsRow wq.heap.size 119 2 (X (V ⟨g2,0,S⟩) 1 az) 1 [I (Aa d.name),X q (Z (zf d.rules)) r]):=t;have gA:=Ac wq (Ae #[I (Aa d.name),X q (Z (zf d.rules)) r] 119) S;have aF:Y (All2 (HostVal w2) ([[I (Aa d.name),X q (Z (zf d.rules)) r]]:A (A Aj)) (qx (y.take (0+1)))):=by
             rw[HS.o];unfold uG;rw[Ep.1 bO];exact .cons ((ah.o.keep gA (za _ _)).keep f (za _ _)) .nil
            have al:Y (w2.ownsRow w.heap.size 119 2 (X (V ⟨g2,0,S⟩) 1 az) (0+1) ([[I (Aa d.name),X q (Z (zf d.rules)) r]]:A (A Aj)).flatten):=zo t zq;have F:wq.grownBy w2 S:=zt ((((Vw wq.heap.size wq).alloc (Aq _) _).grown f (by simp) (fun k hk=>by cases hk)));have aq:Y (wo.grownBy w2 S):=zD aN.o F;have aH:Y (RInv w2 rb g am ts st (Fo1 (Z y) gh hc)):=RInv.keep aJ.o F;go_wp2_with (at_builtin;refine Qa rfl _ _ 67 rfl (wq.heap.size) 119 i0 2 underlying67 hi _ _ _ rfl ae.o rfl ?_)
            go_roundw
            case rel=>exact⟨0+1,_,by omega,by go_num,al,aF,aH,aq⟩
            case measure=>simp[intOf];omega
           ·simp only[Au] at hsl
            obtain⟨rfl,_,rfl⟩:=hsl;go_wp2_with fail;go_quiet (fail);have C:=zD aI.o (x3 wr nq);have B:Y _:=zK aQ.o (x3 wr nq) (fun k hk c=>by cases c);have aa:Y (All2 (HostVal (wr.drewN nq)) Q out):=aT.o.map fun a b hab=>hab.keep C (za _ _)
            have aJ:=J (RInv.keep bb.o C);have aN:=J (zD aX.o C);have ak:=J (zE ag.o C (by simp));have aM:Y (RulesRow (wr.drewN nq) (X q (Z (zf d.rules)) r) (zf d.rules)):=RulesRow.keep bc.o C (za _ _);have zq:=Bi zc C.size;generalize wr.drewN nq=wq at*
            by_cases cC:k<oc
            ·have H0:Y (wq.cell? ⟨b8,0,S⟩=V (I (Aa d.name))):=zB ak.o
             have H1:Y (wq.cell? ⟨b8,1,S⟩=V (X q (Z (zf d.rules)) r)):=zB ak.o;have ah:Y (HostVal wq [I (Aa d.name),X q (Z (zf d.rules)) r] ⟨d.name,zf d.rules⟩):=⟨_,rfl,aM.o⟩;have HW:Y (∀j u,(Q.flatten)[j]?=V u->wq.cell? ⟨go,j,S⟩=V u):=by
              intro j u z;have ab:=(Bo.1 z).1;rw[B.o.1] at ab;rw[Ap B.o j ab];exact z
             have aA:=uA B.o;unfold Bh at aA;obtain⟨bG,bH⟩:=aA;have ar:=J (B.o.1);have aL:=J (dR aa.o);go_wp2_with (at_builtin;refine Cu _ rfl _ _ 67 rfl (wq.heap.size) 119 i0 _ 2 40 underlying67 hi an ao ap rfl (by decide) _ _ _ rfl (Bk _ _ _ _) ⟨go,0,S⟩ k oc (Q.flatten.take (k*2)) rfl ?a1 ?a2 ?a3 ?a4 ?a5 ?a6 ?_)
             case a1=>rw[Cq,ar.o];omega
             case a2=>
              intro j u z;rw[uk];rw[Gi] at z
              split at z
              ·exact HW.o j u z
              ·cases z
             case a3=>exact fun u z=>aL.o u (Oi z)
             case a4=>unfold Bh;omega
             case a5=>omega
             case a6=>exact Aq _
             intro v1 w1 N o _;obtain⟨aR,aS,rfl⟩:=zL N;have g1:wq.grownBy w1 S:=o;have ad:=J N;have ax:Y _:=zK B.o o (fun k hk c=>by cases c);have z1:=o.size;have d0:=g1.cell H0.o (by simp);have d1:=g1.cell H1.o (by simp);have au:=J g1;go_wp2_with (at_builtin;refine Ei _ rfl _ _ 67 rfl (wq.heap.size) 119 i0 _ 2 40 underlying67 hi an ao ap rfl (by decide) _ _ _ rfl (Ao ad.o _) ⟨w1.heap.size,0,S⟩ 1 1 [I (Aa d.name),X q (Z (zf d.rules)) r] rfl rfl ?c1 ?c2 (by decide) ?c3 ?c4 ?c5 (w1.heap.size+1) (by simp) ?_)
             case c1=>exact zZ _ #[_,_] _ _ (by simp)
             case c2=>exact fV ah.o
             case c3=>unfold Bh;omega
             case c4=>omega
             case c5=>simp;omega
             intro g2 az w2 t f _ _;have ae:=J t;have ay:Y _:=zK (Ao ax.o _) f (fun k hk c=>by have h1:=(An B.o k hk).2;have h2:=(An ad.o k c).1;omega);have z2:w1.heap.size+1<=w2.heap.size:=by have h:=f.size;simpa using h
             have av:=J f;have be:Y (∀j u,(Q.flatten)[j]?=V u->w2.cell? ⟨go,j,S⟩=V u):=by
              intro j u z;have ab:=(Bo.1 z).1;rw[B.o.1] at ab;rw[Ap ay.o j ab];exact z
             go_wp2_with (at_builtin;refine Cu _ rfl _ _ 67 rfl (wq.heap.size) 119 i0 _ 2 40 underlying67 hi an ao ap rfl (by decide) _ _ _ rfl ae.o ⟨go,k*2,S⟩ 0 (oc - k) [] rfl ?b1 ?b2 ?b3 ?b4 ?b5 ?b6 ?_)
             case b1=>rfl
             case b2=>intro j u z;simp at z
             case b3=>exact fun u z=>by simp at z
             case b4=>unfold Bh;omega
             case b5=>omega
             case b6=>omega
             intro v3 w3 aB p _;have gA:=Ac w1 (Ae #[I (Aa d.name),X q (Z (zf d.rules)) r] 119) S;have aD:Safe (w1.alloc (Ae #[I (Aa d.name),X q (Z (zf d.rules)) r] 119)) (X aR k aS).ownBlock rtags:=xk (Ao ad.o _) (by decide);have aE:Safe w2 (X (V ⟨g2,0,S⟩) (k+1) az).ownBlock rtags:=xk ae.o (by decide);have kp:∀a b,HostVal wq a b->HostVal w3 a b:=fun a b hab=>(((hab.keep au.o (za _ _)).keep gA (za _ _)).keep av.o aD).keep p aE
             have aF:Y (All2 (HostVal w3) (Q.take k++([[I (Aa d.name),X q (Z (zf d.rules)) r]]:A (A Aj))++Q.drop k) (qx (y.take (k+1)))):=by
              rw[HS.o];unfold uG;rw[aV.o];exact((aa.o.take k).append (.cons ah.o .nil) |>.append (aa.o.drop k)).map kp
             have al:Y (w3.ownsRow w.heap.size 119 2 v3 (k+1) (Q.take k++([[I (Aa d.name),X q (Z (zf d.rules)) r]]:A (A Aj))++Q.drop k).flatten):=by
              rw[Eg,Eg,ti aa.o,tf aa.o,show k+1=k+1+0 by omega,show([[I (Aa d.name),X q (Z (zf d.rules)) r]]:A (A Aj)).flatten=[I (Aa d.name),X q (Z (zf d.rules)) r] from rfl,Ga (l:=Q.flatten) (by rw[ar.o];omega),Bl];exact zo aB zq
             have F:wq.grownBy w3 S:=by
              refine zt ?_;have b1:=qh au.o;have b2:=(b1.alloc (by omega) (Ae #[I (Aa d.name),X q (Z (zf d.rules)) r] 119)).grown av.o (by simp;omega) (fun k hk=>by have:=(An ad.o k hk).1;omega);exact b2.grown p (by omega) (fun k hk=>by have:=(An ae.o k hk).1;omega)
             have aq:Y (wo.grownBy w3 S):=zD aN.o F;have aH:Y (RInv w3 rb g am ts st (Fo1 (Z y) gh hc)):=RInv.keep aJ.o F;obtain⟨bR,bS,rfl⟩:=zL al.o;go_wp2
             go_roundw
             case rel=>exact⟨k+1,_,by omega,by go_num,al,aF,aH,aq⟩
             case measure=>simp[intOf];omega
            ·obtain rfl:oc=k:=by have h:=(uA B.o).1;omega
             have H0:Y (wq.cell? ⟨b8,0,S⟩=V (I (Aa d.name))):=zB ak.o;have H1:Y (wq.cell? ⟨b8,1,S⟩=V (X q (Z (zf d.rules)) r)):=zB ak.o;have ah:Y (HostVal wq [I (Aa d.name),X q (Z (zf d.rules)) r] ⟨d.name,zf d.rules⟩):=⟨_,rfl,aM.o⟩;have HW:Y (∀j u,(Q.flatten)[j]?=V u->wq.cell? ⟨go,j,S⟩=V u):=by
              intro j u z;have ab:=(Bo.1 z).1;rw[B.o.1] at ab;rw[Ap B.o j ab];exact z
             have aA:=uA B.o;unfold Bh at aA;obtain⟨bG,bH⟩:=aA;have ar:=J (B.o.1);have aL:=J (dR aa.o);go_wp2_with (at_builtin;refine Cu _ rfl _ _ 67 rfl (wq.heap.size) 119 i0 _ 2 40 underlying67 hi an ao ap rfl (by decide) _ _ _ rfl (Bk _ _ _ _) ⟨go,0,S⟩ oc oc (Q.flatten.take (oc*2)) rfl ?a1 ?a2 ?a3 ?a4 ?a5 ?a6 ?_)
             case a1=>rw[Cq,ar.o];omega
             case a2=>
              intro j u z;rw[uk];rw[Gi] at z
              split at z
              ·exact HW.o j u z
              ·cases z
             case a3=>exact fun u z=>aL.o u (Oi z)
             case a4=>unfold Bh;omega
             case a5=>omega
             case a6=>exact Aq _
             intro v1 w1 N o _;obtain⟨aR,aS,rfl⟩:=zL N;have g1:wq.grownBy w1 S:=o;have ad:=J N;have ax:Y _:=zK B.o o (fun oc hk c=>by cases c);have z1:=o.size;have d0:=g1.cell H0.o (by simp);have d1:=g1.cell H1.o (by simp);have au:=J g1;go_wp2_with (at_builtin;refine Ei _ rfl _ _ 67 rfl (wq.heap.size) 119 i0 _ 2 40 underlying67 hi an ao ap rfl (by decide) _ _ _ rfl (Ao ad.o _) ⟨w1.heap.size,0,S⟩ 1 1 [I (Aa d.name),X q (Z (zf d.rules)) r] rfl rfl ?c1 ?c2 (by decide) ?c3 ?c4 ?c5 (w1.heap.size+1) (by simp) ?_)
             case c1=>exact zZ _ #[_,_] _ _ (by simp)
             case c2=>exact fV ah.o
             case c3=>unfold Bh;omega
             case c4=>omega
             case c5=>simp;omega
             intro g2 az w2 t f _ _;have ae:=J t;have ay:Y _:=zK (Ao ax.o _) f (fun oc hk c=>by have h1:=(An B.o oc hk).2;have h2:=(An ad.o oc c).1;omega);have z2:w1.heap.size+1<=w2.heap.size:=by have h:=f.size;simpa using h
             have av:=J f;have be:Y (∀j u,(Q.flatten)[j]?=V u->w2.cell? ⟨go,j,S⟩=V u):=by
              intro j u z;have ab:=(Bo.1 z).1;rw[B.o.1] at ab;rw[Ap ay.o j ab];exact z
             go_wp2_with (at_builtin;refine Cu _ rfl _ _ 67 rfl (wq.heap.size) 119 i0 _ 2 40 underlying67 hi an ao ap rfl (by decide) _ _ _ rfl ae.o ⟨go,0,S⟩ 0 0 [] rfl ?b1 ?b2 ?b3 ?b4 ?b5 ?b6 ?_)
             case b1=>rfl
             case b2=>intro j u z;simp at z
             case b3=>exact fun u z=>by simp at z
             case b4=>unfold Bh;omega
             case b5=>omega
             case b6=>omega
             intro v3 w3 aB p _;have gA:=Ac w1 (Ae #[I (Aa d.name),X q (Z (zf d.rules)) r] 119) S;have aD:Safe (w1.alloc (Ae #[I (Aa d.name),X q (Z (zf d.rules)) r] 119)) (X aR oc aS).ownBlock rtags:=xk (Ao ad.o _) (by decide);have aE:Safe w2 (X (V ⟨g2,0,S⟩) (oc+1) az).ownBlock rtags:=xk ae.o (by decide);have kp:∀a b,HostVal wq a b->HostVal w3 a b:=fun a b hab=>(((hab.keep au.o (za _ _)).keep gA (za _ _)).keep av.o aD).keep p aE
             have aF:Y (All2 (HostVal w3) (Q.take oc++([[I (Aa d.name),X q (Z (zf d.rules)) r]]:A (A Aj))++Q.drop oc) (qx (y.take (oc+1)))):=by
              rw[HS.o];unfold uG;rw[aV.o];exact((aa.o.take oc).append (.cons ah.o .nil) |>.append (aa.o.drop oc)).map kp
             have al:Y (w3.ownsRow w.heap.size 119 2 v3 (oc+1) (Q.take oc++([[I (Aa d.name),X q (Z (zf d.rules)) r]]:A (A Aj))++Q.drop oc).flatten):=by
              rw[Eg,Eg,ti aa.o,tf aa.o,show oc+1=oc+1+0 by omega,show([[I (Aa d.name),X q (Z (zf d.rules)) r]]:A (A Aj)).flatten=[I (Aa d.name),X q (Z (zf d.rules)) r] from rfl,Ga (l:=Q.flatten) (by rw[ar.o];omega),Bl];exact zo aB zq
             have F:wq.grownBy w3 S:=by
              refine zt ?_;have b1:=qh au.o;have b2:=(b1.alloc (by omega) (Ae #[I (Aa d.name),X q (Z (zf d.rules)) r] 119)).grown av.o (by simp;omega) (fun oc hk=>by have:=(An ad.o oc hk).1;omega);exact b2.grown p (by omega) (fun oc hk=>by have:=(An ae.o oc hk).1;omega)
             have aq:Y (wo.grownBy w3 S):=zD aN.o F;have aH:Y (RInv w3 rb g am ts st (Fo1 (Z y) gh hc)):=RInv.keep aJ.o F;obtain⟨bR,bS,rfl⟩:=zL al.o;go_wp2
             go_roundw
             case rel=>exact⟨oc+1,_,by omega,by go_num,al,aF,aH,aq⟩
             case measure=>simp[intOf];omega
       ·go_wp2
        go_ret3
        rw[show i=Z y by omega,Cc (Aq _)] at HA;refine⟨_,by rw[af.o,bp.o];rfl,aG.o.trans ((qh HZ.o).mono aG.o.size),fun _=>?_⟩;rw[ax.o];refine⟨Q,?_,HA.o⟩;rw[dq,show (Z y)=i by omega];exact HO.o
     ·rw[Aw hE] at af
      have bx:(st.E != 0)=true:=by rw[Qv];exact hE
      have b0:=J (hE);go_wp2
      go_region
      all_goals
       go_wp2
       go_ret3
       exact⟨_,by rw[af.o];rfl,aG.o.drew,fun h=>absurd h (by rw[af.o];exact b0.o)⟩
def vW (a b:A Ab):Ak:=if qd a b then -1 else if a=b then 0 else 1
def tV (a b:Ak):Ak:=if a<b then -1 else if a=b then 0 else 1
theorem fc (x:As)(w:Ag):Am prog 211 #[I x] w fun e w'=>e=Af (Av false)/\w'=w:=by
 go_in;go_wp2;go_ret;exact⟨by simp,rfl⟩
theorem lu (x:Ak)(w:Ag):Am prog 213 #[O Ai x] w fun e w'=>e=Af (Av false)/\w'=w:=by
 go_in;go_wp2;go_ret;exact⟨by simp,rfl⟩
theorem zeX (x y:A Ab)(w:Ag):Am prog 152 #[I (Aa x),I (Aa y)] w fun e w'=>e=Af (O Ai (vW x y))/\w'=w:=by
 have c:=wk x y;have d:((Aa x).toList == (Aa y).toList)=decide (x=y):=by
  rw[Lib.toList_data,Lib.toList_data,Be,Be];by_cases h:x=y <;> simp[h]
 by_cases b:qd x y=true
 ·rw[b] at c
  have e:vW x y = -1:=by unfold vW;rw[Az b]
  generalize vW x y=r at*;subst e;go_in;go_wp2_with (go_at_call 211;refine(fc _ _).mono ?_;rintro e w' ⟨rfl,rfl⟩);go_ret;exact⟨rfl,rfl⟩
 ·rw[show qd x y=false by simpa using b] at c
  by_cases a:x=y
  ·have e:vW x y=0:=by unfold vW;rw[Aw b,Az a]
   rw[show decide (x=y)=true by simpa using a] at d;generalize vW x y=r at*;subst e;clear a;go_in;go_wp2_with (go_at_call 211;refine(fc _ _).mono ?_;rintro e w' ⟨rfl,rfl⟩);go_ret;exact⟨rfl,rfl⟩
  ·have e:vW x y=1:=by unfold vW;rw[Aw b,Aw a]
   rw[show decide (x=y)=false by simpa using a] at d;generalize vW x y=r at*;subst e;clear a;go_in;go_wp2_with (go_at_call 211;refine(fc _ _).mono ?_;rintro e w' ⟨rfl,rfl⟩);go_ret;exact⟨rfl,rfl⟩
theorem zeW (x y:Ak)(w:Ag):Am prog 155 #[O Ai x,O Ai y] w fun e w'=>e=Af (O Ai (tV x y))/\w'=w:=by
 go_in;go_wp2_with (go_at_call 213;refine(lu _ _).mono ?_;rintro e w' ⟨rfl,rfl⟩)
 all_goals
  go_ret;refine⟨?_,rfl⟩;unfold tV
  first|(rw[Az (by omega)];rfl)|(rw[Aw (by omega),Az (by omega)];rfl)|(rw[Aw (by omega),Aw (by omega)];rfl)
abbrev Sl3:=Br Addr×Ad×Ad
instance:Xl P.Hst:=⟨⟨[],[]⟩⟩
instance:Xl P.Rl:=⟨⟨0,[],[],[],[],[],[]⟩⟩
def encH (x:P.Hst×Sl3):A Aj:=[I (Aa x.1.name),X x.2.1 x.2.2.1 x.2.2.2]
def encR (x:P.Rl×Sl3×Sl3×Sl3×Sl3):A Aj:=[O Ai x.1.number,I (Aa x.1.path),X x.2.1.1 x.2.1.2.1 x.2.1.2.2,X x.2.2.1.1 x.2.2.1.2.1 x.2.2.1.2.2,I (Aa x.1.rep),X x.2.2.2.1.1 x.2.2.2.1.2.1 x.2.2.2.1.2.2,X x.2.2.2.2.1 x.2.2.2.2.2.1 x.2.2.2.2.2.2]
theorem zkN (b c:A Ab)(d f:Br Addr)(i j g h:Ad)(W:Ag):Am prog 151 #[Fe #[I (Aa b),X d i g],Fe #[I (Aa c),X f j h]] W fun e w'=>e=Af (O Ai (vW b c))/\∃q os',w'=Vt (W.drewN q) os':=by
 have a:=fun W'=>zeX b c W'
 generalize vW b c=r at a ⊢;go_in;go_wp2_with (go_at_call 152;refine(a _).mono ?_;rintro e w' ⟨rfl,rfl⟩);go_ret;exact⟨rfl,0,_,by rw[Su,Su,Go.Sort.grow_grow];rfl⟩
theorem zkO (x y:P.Rl×Sl3×Sl3×Sl3×Sl3)(W:Ag):Am prog 154 #[Fe (encR x).toArray,Fe (encR y).toArray] W fun e w'=>e=Af (O Ai (tV x.1.number y.1.number))/\∃q os',w'=Vt (W.drewN q) os':=by
 have a:=fun W'=>zeW x.1.number y.1.number W'
 generalize tV x.1.number y.1.number=r at a ⊢;show Am prog 154 #[Fe #[_,_,_,_,_,_,_],Fe #[_,_,_,_,_,_,_]] W _;go_in;go_wp2_with (go_at_call 155;refine(a _).mono ?_;rintro e w' ⟨rfl,rfl⟩);go_ret;exact⟨rfl,0,_,by rw[Su,Su,Go.Sort.grow_grow];rfl⟩
theorem PV.isAggH:∀w,(isAgg (Tryz.sortHost_ren.t 24)).run prog w = .ok true w:=fun w=>by kernel_rfl
theorem PV.sizeH:∀w,(Go.sizeOf (Tryz.sortHost_ren.t 24)).run prog w = .ok 2 w:=fun w=>by kernel_rfl
theorem PV.isAggR:∀w,(isAgg (Tryz.sortRule_ren.t 24)).run prog w = .ok true w:=fun w=>by kernel_rfl
theorem PV.sizeR:∀w,(Go.sizeOf (Tryz.sortRule_ren.t 24)).run prog w = .ok 7 w:=fun w=>by kernel_rfl
theorem PV.enterH:∀args w,(callFunc 151 args).run prog w = .ok (.enter 151 args) w:=enters_of func151 (by kernel_rfl) rfl
theorem PV.enterR:∀args w,(callFunc 154 args).run prog w = .ok (.enter 154 args) w:=enters_of func154 (by kernel_rfl) rfl
def cfH (x y:P.Hst×Sl3):Ak:=vW x.1.name y.1.name
def cfR (x y:P.Rl×Sl3×Sl3×Sl3×Sl3):Ak:=tV x.1.number y.1.number
theorem zhO:Go.Proofs.ltOf cfH=fun x y=>Iy x.1.name y.1.name:=by
 funext x y;unfold Go.Proofs.ltOf cfH vW Iy qd
 rw[bytesLess_eq]
 grind[cfH,vW,qd,Bool.false_eq_true]
theorem zhP:Go.Proofs.ltOf cfR=fun x y=>Mw x.1.number y.1.number:=by
 funext x y;unfold Go.Proofs.ltOf cfR tV Mw
 grind[cfR,tV]
theorem zm7:Vh (Go.Proofs.ltOf cfH):=by
 rw[zhO];exact⟨fun x=>Hk.irrefl _,fun x y z=>Hk.trans _ _ _,fun x y z=>Hk.ntrans _ _ _⟩
theorem zm8:Vh (Go.Proofs.ltOf cfR):=by
 rw[zhP];exact⟨fun x=>Nl.irrefl _,fun x y z=>Nl.trans _ _ _,fun x y z=>Nl.ntrans _ _ _⟩
theorem zfK {b:Ad}(d:A (P.Hst×Sl3))(h:w.ownsRow B 146 2 (Fo1 (Z d) g b) (Z d) (d.map encH).flatten)(r:Z d<=12):Am prog 150 #[X (V ⟨g,0,S⟩) (Z d) b,.func (.func 151) #[] #[]] w fun e w'=>e=Af (Cm #[])/\∃c:A (P.Hst×Sl3),c.Perm d/\c.Pairwise (fun x y=>Iy y.1.name x.1.name=false)/\w.grownBy w' (V g)/\w'.ownsRow B 146 2 (Fo1 (Z d) g b) (Z d) (c.map encH).flatten:=by
 have k:g<w.heap.size:=(An h g rfl).2;have q:=bZ encH 2 (fun _=>rfl) d h;have a:=AnyQ.slices_SortFunc_small_sorted Tryz.sortHost 2 PV.isAggH PV.sizeH encH (fun _=>rfl) (fun x v hv=>by simp[encH] at hv;rcases hv with rfl|rfl <;> rfl) cfH 151 #[] zm7 g 0 b d.toArray w PV.enterH (fun _ _ _ _ x y=>zkN x.1.name y.1.name _ _ _ _ _ _ _) q k (by simpa using r) Tryz.hlen
 change Am prog 150 _ _ _ at a
 rw[List.size_toArray] at a;refine a.mono ?_;rintro e w' ⟨rfl,c,n,t,l,s,rfl⟩;refine⟨rfl,c.toList,?_,?_,gN _ _ _ _ _ _ _,?_⟩
 ·have:=l.2.2
  have f:=l.1;simp at this f;rw[<-f,Cc (by simp)] at this;exact this
 ·rw[Vk]
  intro i j o p m;have f:=l.1;simp at f o p;have:=s i j (Ax _) m (by omega);rw[zhO,Sc c i o,Sc c j p] at this
  simpa using this
 ·have f:=l.1
  simp at f;have:=nr encH 2 (fun _=>rfl) d c.toList (by simpa using f) n t h
  simpa using this
theorem zfL {b:Ad}(d:A (P.Rl×Sl3×Sl3×Sl3×Sl3))(h:w.ownsRow B 213 7 (Fo1 (Z d) g b) (Z d) (d.map encR).flatten)(r:Z d<=12):Am prog 153 #[X (V ⟨g,0,S⟩) (Z d) b,.func (.func 154) #[] #[]] w fun e w'=>e=Af (Cm #[])/\∃c:A (P.Rl×Sl3×Sl3×Sl3×Sl3),c.Perm d/\c.Pairwise (fun x y=>Mw y.1.number x.1.number=false)/\w.grownBy w' (V g)/\w'.ownsRow B 213 7 (Fo1 (Z d) g b) (Z d) (c.map encR).flatten:=by
 have k:g<w.heap.size:=(An h g rfl).2;have q:=bZ encR 7 (fun _=>rfl) d h;have a:=AnyQ.slices_SortFunc_small_sorted Tryz.sortRule 7 PV.isAggR PV.sizeR encR (fun _=>rfl) (fun x v hv=>by simp[encR] at hv;rcases hv with rfl|rfl|rfl|rfl|rfl|rfl|rfl <;> rfl) cfR 154 #[] zm8 g 0 b d.toArray w PV.enterR (fun _ _ _ _ x y=>zkO x y _) q k (by simpa using r) Tryz.hlen
 change Am prog 153 _ _ _ at a
 rw[List.size_toArray] at a;refine a.mono ?_;rintro e w' ⟨rfl,c,n,t,l,s,rfl⟩;refine⟨rfl,c.toList,?_,?_,gN _ _ _ _ _ _ _,?_⟩
 ·have:=l.2.2
  have f:=l.1;simp at this f;rw[<-f,Cc (by simp)] at this;exact this
 ·rw[Vk]
  intro i j o p m;have f:=l.1;simp at f o p;have:=s i j (Ax _) m (by omega);rw[zhP,Sc c i o,Sc c j p] at this
  simpa using this
 ·have f:=l.1
  simp at f;have:=nr encR 7 (fun _=>rfl) d c.toList (by simpa using f) n t h
  simpa using this
theorem au (w:Ag):Am prog 276 #[X S 0 0,O Ai 0,O Ai 0,.func (.func 151) #[] #[]] w fun e w'=>e=Af (Cm #[])/\w'=w:=by
 go_in;go_wp2;refine wp_loop_rounds 1 ?_;rw[rounds_succ];go_wp2
 go_end0
 exact⟨rfl,rfl⟩
theorem az (l:Ak)(w:Ag):Am prog 209 #[X S 0 0,O Ai 0,O Ai 0,O Ai l,.func (.func 151) #[] #[]] w fun e w'=>e=Af (Cm #[])/\w'=w:=by
 have a:=au w;go_in;go_wp2;refine wp_loop_rounds 1 ?_;rw[rounds_succ];go_wp2_with (go_at_call 276;refine a.mono ?_;rintro e w' ⟨rfl,rfl⟩)
 (try simp only[Exit.inBlock,Exit.then]);refine Et (results_none rfl _ _ _) rfl ?_
 exact⟨rfl,rfl⟩
theorem po (w:Ag):Am prog 150 #[X S 0 0,.func (.func 151) #[] #[]] w fun e w'=>e=Af (Cm #[])/\w'=w:=by
 have b:=fun l=>az l w
 have a:=Tryz.hlen 0 w (by omega);go_in;go_wp2_with (first|(go_at_call 210;refine a.mono ?_;rintro e w' ⟨⟨l,rfl⟩,rfl⟩)|(go_at_call 209;refine(b _).mono ?_;rintro e w' ⟨rfl,rfl⟩))
 go_end0
 exact⟨rfl,rfl⟩
theorem aw (w:Ag):Am prog 286 #[X S 0 0,O Ai 0,O Ai 0,.func (.func 154) #[] #[]] w fun e w'=>e=Af (Cm #[])/\w'=w:=by
 go_in;go_wp2;refine wp_loop_rounds 1 ?_;rw[rounds_succ];go_wp2
 go_end0
 exact⟨rfl,rfl⟩
theorem eA (l:Ak)(w:Ag):Am prog 212 #[X S 0 0,O Ai 0,O Ai 0,O Ai l,.func (.func 154) #[] #[]] w fun e w'=>e=Af (Cm #[])/\w'=w:=by
 have a:=aw w;go_in;go_wp2;refine wp_loop_rounds 1 ?_;rw[rounds_succ];go_wp2_with (go_at_call 286;refine a.mono ?_;rintro e w' ⟨rfl,rfl⟩)
 (try simp only[Exit.inBlock,Exit.then]);refine Et (results_none rfl _ _ _) rfl ?_
 exact⟨rfl,rfl⟩
theorem pu (w:Ag):Am prog 153 #[X S 0 0,.func (.func 154) #[] #[]] w fun e w'=>e=Af (Cm #[])/\w'=w:=by
 have b:=fun l=>eA l w
 have a:=Tryz.hlen 0 w (by omega);go_in;go_wp2_with (first|(go_at_call 210;refine a.mono ?_;rintro e w' ⟨⟨l,rfl⟩,rfl⟩)|(go_at_call 212;refine(b _).mono ?_;rintro e w' ⟨rfl,rfl⟩))
 go_end0
 exact⟨rfl,rfl⟩
structure Kept (B:Ad) (l:A Cs) (w w':Ag):Prop where
 os:w'.os=w.os
 tape:w'.tape=w.tape
 output:w'.output=w.output
 size:w.heap.size<=w'.heap.size
 block:∀k,k<w.heap.size->(k<B\/∀c t f,w.heap[k]?=V (Ae c t f)->t ∉ l)->w'.heap[k]?=w.heap[k]?
theorem Kept.refl (B:Ad)(l:A Cs)(w:Ag):Kept B l w w:=by grind[Kept]
variable {l:A Cs}
theorem Kept.trans {a c:Ag}(h:Kept B l a b)(d:Kept B l b c):Kept B l a c:=by grind[Kept]
theorem Kept.floor {c:Ad}{a:Ag}(h:Kept B l a b)(d:c<=B):Kept c l a b:=by grind[Kept]
theorem Kept.grown {a:Ag}(h:Kept B l a b)(c:a.heap.size<=B):a.grownBy b S:=⟨h.os,h.tape,h.output,h.size,fun k hk _=>h.block k hk (Or.inl (Eh hk c))⟩
theorem xJ {a:Ag}(h:a.grownBy b S):Kept B l a b:=⟨h.os,h.tape,h.output,h.size,fun k hk _=>h.block k hk (by simp)⟩
theorem v8 {a:Ag}{c:Fh Aj}{t:Cs}{f:Ad×Ad}(h:a.grownBy b (V g))(d:a.heap[g]?=V (Ae c t f))(i:t∈l)(j:B<=g):Kept B l a b:=
 ⟨h.os,h.tape,h.output,h.size,fun k hk hn=>h.block k hk (fun e=>by
  cases e
  rcases hn with hn|hn
  ·omega
  ·exact hn c t f d i)⟩
theorem zhK {a:Ag}{n:Ad}{e:Cs}{s:Ad}{k:A Aj}(h:a.grownBy b (V g))(f:a.ownsRow B e s (X (V ⟨g,0,S⟩) n d) n k)(j:e∈l):Kept B l a b:=by
 obtain⟨c,i⟩:=qT f g rfl;exact v8 h i j (An f g rfl).1
theorem iO {Q:A Aj->β->Prop}(enc:β×α->A Aj)(d:A (β×α))(h:∀x∈d,Q (enc x) x.1):All2 Q (d.map enc) (d.map Bq):=by
 induction d <;> grind[All2]
theorem iN {Q:A Aj->β->Prop}(enc:α->A Aj)(d:A α)(m:A β)(a:Z m=Z d)(h:∀j (b:j<Z d) (c:j<Z m),Q (enc d[j]) m[j]):All2 Q (d.map enc) m:=by
 induction d generalizing m with
 |nil=>rw[Ep.1 a];exact .nil
 |cons x d ih=>
  match m,a with
  |y::m,a=>
   exact .cons (h 0 (by simp) (by simp)) (ih m (by simpa using a) fun j b c=>h (j+1) (by simpa using b) (by simpa using c))
theorem zeD {b:A (A Aj)}{i:A P.Hst}(h:All2 (PHostVal w) b i):∃d:A (P.Hst×Sl3),d.map encH=b/\d.map Bq=i/\∀x∈d,PHostVal w (encH x) x.1:=by
 induction h with
 |nil=>exact⟨[],rfl,rfl,fun x hx=>by simp at hx⟩
 | @cons c r cs rs hc _ ih=>
  obtain⟨d,j,k,l⟩:=ih;obtain⟨m,rfl,g⟩:=hc;obtain⟨b,f,_⟩:=id g;obtain⟨a,n,rfl⟩:=zL f;refine⟨(r,a,Z r.rules,n)::d,by rw[Er,j];rfl,by rw[Er,k],fun x hx=>?_⟩;rcases En.1 hx with rfl|hx
  ·exact⟨_,rfl,g⟩
  ·exact l x hx
theorem zg5 {b:A P.Rl}(h:All2 (PRuleVal w) a b):∃d:A (P.Rl×Sl3×Sl3×Sl3×Sl3),d.map encR=a/\d.map Bq=b/\∀x∈d,PRuleVal w (encR x) x.1:=by
 induction h with
 |nil=>exact⟨[],rfl,rfl,fun x hx=>by simp at hx⟩
 | @cons c r cs b hc _ ih=>
  obtain⟨d,t,u,v⟩:=ih;obtain⟨z,C,B,y,rfl,f,g,i,j⟩:=hc;obtain⟨k,o,rfl⟩:=zL f;obtain⟨l,p,rfl⟩:=zL g;obtain⟨m,q,rfl⟩:=zL i;obtain⟨n,s,rfl⟩:=zL j;refine⟨(r,(k,Z r.ms,o),(l,Z r.tg,p),(m,Z r.sets,q),(n,Z r.drops,s))::d,by rw[Er,t];rfl,by rw[Er,u],fun x hx=>?_⟩;rcases En.1 hx with rfl|hx
  ·exact⟨_,_,_,_,rfl,f,g,i,j⟩
  ·exact v x hx
theorem PHostVal.away {c:A Aj}{h:P.Hst}{row:Br Ad}(m:PHostVal w c h)(f:w.grownBy w' row)(l:Safe w row pleaves)(j:∀k,rblk c=V k->row≠V k):PHostVal w' c h:=by
 obtain⟨n,rfl,d,g,i⟩:=m;exact⟨n,rfl,d,zK g f (fun k hb=>j k hb),i.map fun a b hab=>hab.keep f l⟩
def SrtR (a b:P.Hst):Prop:=b.name=a.name/\b.rules.Perm a.rules/\b.rules.Pairwise (fun x y=>Mw y.number x.number=false)
def SrtH (hs hs':A P.Hst):Prop:=∃p:A P.Hst,p.Perm hs/\p.Pairwise (fun x y=>Iy y.name x.name=false)/\(Z hs')=Z p/\∀j (h1:j<Z p) (h2:j<Z hs'),SrtR p[j] hs'[j]
theorem pn (B:Ad)(j:A P.Rl)(h:PRulesRow w 0 v j)(l:Z j<=12)(c:∀k,v.ownBlock=V k->B<=k):Am prog 153 #[v,.func (.func 154) #[] #[]] w fun e w'=>e=Af (Cm #[])/\w.grownBy w' v.ownBlock/\Safe w v.ownBlock pleaves/\Safe w v.ownBlock [146]/\Kept B [146,213] w w'/\∃rs',PRulesRow w' 0 v rs'/\rs'.Perm j/\rs'.Pairwise (fun x y=>Mw y.number x.number=false):=by
 obtain⟨n,b,o⟩:=h;obtain⟨d,rfl,rfl,p⟩:=zg5 o;rw[Bv] at b l;rcases b.2 with ⟨rfl,h0⟩|⟨g,cap,cur,rfl,hB,hb,_⟩
 ·refine(pu w).mono ?_
  rintro e w' ⟨rfl,rfl⟩;have:d=[]:=Ep.1 h0;subst this;exact⟨rfl,zP _ _,za _ _,za _ _,Kept.refl _ _ _,[],⟨[],Bk _ _ _ _,.nil⟩,List.Perm.refl _,.nil⟩
 ·have m:Safe w (V g) pleaves:=xQ hb (by decide)
  refine(zfL d b l).mono ?_;rintro e w' ⟨rfl,a,i,r,f,q⟩;refine⟨rfl,f,m,xQ hb (by decide),v8 f hb (by decide) (c g rfl),a.map Bq,⟨a.map encR,?_,?_⟩,i.map _,?_⟩
  ·rw[Bv,i.length_eq];exact q
  ·exact iO encR a fun x hx=>(p x (i.mem_iff.1 hx)).keep f m
  ·rw[Ma];exact r
theorem pj (i:A P.Hst)(h:PHosts w B v i)(o:Z i<=12):Am prog 150 #[v,.func (.func 151) #[] #[]] w fun e w'=>e=Af (Cm #[])/\Kept B [146,213] w w'/\∃c:A (P.Hst×Sl3),w'.ownsRow B 146 2 v (Z c) (c.map encH).flatten/\(∀x∈c,PHostVal w' (encH x) x.1)/\(c.map encH).Pairwise (fun a b=>∀k,rblk a=V k->rblk b≠V k)/\(∀x∈c,∀k,rblk (encH x)=V k->B<=k)/\(c.map Bq).Perm i/\(c.map Bq).Pairwise (fun x y=>Iy y.name x.name=false):=by
 obtain⟨p,j,q,l,m⟩:=h;obtain⟨d,rfl,rfl,r⟩:=zeD q;rw[Bv] at j o;rcases j.2 with ⟨rfl,h0⟩|⟨g,cap,cur,rfl,hB,hb,_⟩
 ·refine(po w).mono ?_
  rintro e w' ⟨rfl,rfl⟩;have:d=[]:=Ep.1 h0;subst this;exact⟨rfl,Kept.refl _ _ _,[],Bk _ _ _ _,fun x hx=>by simp at hx,.nil,fun x hx=>by simp at hx,List.Perm.refl _,.nil⟩
 ·have t:Safe w (V g) prtags:=xQ hb (by decide)
  refine(zfK d j o).mono ?_;rintro e w' ⟨rfl,c,f,i,n,s⟩;refine⟨rfl,zhK n j (by decide),c,by rw[f.length_eq];exact s,fun x hx=>(r x (f.mem_iff.1 hx)).keep n t,?_,fun x hx=>m _ (Hh (f.mem_iff.1 hx)),f.map _,?_⟩
  ·exact(f.map encH).symm.pairwise l (fun {a b} hab k hb ha=>hab k ha hb)
  ·rw[Ma];exact i
theorem lr (d:A P.Hst)(h:PHosts w B v d)(hn:Z d<=12)(hr:∀h∈d,Z h.rules<=12):Am prog 103 #[v] w fun e w'=>e=Af (Fe #[v])/\Kept B [146,213] w w'/\∃hs',PHostsRow w' B v hs'/\SrtH d hs':=by
 have HP:Y (PHosts (w.alloc (Ae #[X S 0 0] 88)) B v d):=h.keep (Ac _ _ S) (za _ _);obtain⟨va,vc,rfl⟩:=h.len;have u:Y ((w.alloc (Ae #[X S 0 0] 88)).heap[w.heap.size]?=V (Ae #[X S 0 0] 88)):=Bn _ _;have ad:Y (Kept B [146,213] w (w.alloc (Ae #[X S 0 0] 88))):=xJ (Ac _ _ S);clear h;go_in;go_wp2_with (go_at_call 150;refine(pj d HP.o hn).mono ?_;rintro e w1 ⟨rfl,aa,a,ho,hv,ae,ag,z,s⟩);have av:Y _:=ad.o.trans aa;have ar:Y (w1.heap[w.heap.size]?=V (Ae #[X S 0 0] 88)):=by
  show w1.heap[w.heap.size]?=_;rw[aa.block w.heap.size (zO u.o) (Bf fun c t f hb=>by rw[u.o] at hb;cases hb;decide)];exact u.o
 have Q:Z a=Z d:=by have:=z.length_eq;simpa using this
 have aw:Y (w1.ownsRow B 146 2 (X va (Z d) vc) (Z d) (a.map encH).flatten):=by have h:=ho;rw[Q] at h;exact h
 have aA:=J hv;have aq:=J ae;have au:=J (ag);have ax:=J z;have ay:=J s;have az:Y (∀x∈a,Z x.1.rules<=12):=fun x hx=>hr x.1 (z.mem_iff.1 (Hh hx))
 clear aa ho hv ae ag z s hr HP u ad;go_wp2
 go_loopw [9] (fun iv wr=>∃(i:Ad) (r:A P.Hst),i<=Z d/\iv=O Ai i/\(Z r)=Z a/\Y (wr.ownsRow B 146 2 (X va (Z d) vc) (Z d) (a.map encH).flatten)/\Y (∀j (b:j<Z a) (n:j<Z r),PHostVal wr (encH a[j]) r[j])/\Y (∀j (b:j<Z a) (n:j<Z r),j<i->SrtR a[j].1 r[j])/\Y (∀j (b:j<Z a) (n:j<Z r),i<=j->r[j]=a[j].1)/\Y (Kept B [146,213] w wr)/\Y (wr.heap[w.heap.size]?=V (Ae #[X S 0 0] 88))) (fun iv _=>Z d-(intOf iv).toNat)
 ·exact⟨0,a.map Bq,Ax _,rfl,by simp,aw,fun j b n=>by rw[Ha];exact aA.o _ (Cr _),fun j _ _ hj=>absurd hj (by omega),fun j b n _=>by rw[Ha],av,ar⟩
 ·
  obtain⟨i,r,aK,rfl,C,HO,HV,HS,HD,E,HB⟩:=hrel
  by_cases aL:i<Z d
  ·have o:i<Z a:=by omega
   have aj:i<Z r:=by omega
   have aJ:(i:Ak)<Z d:=by omega
   obtain⟨g,gc,ai,_,aI⟩:=Bm HO.o (by omega);simp only[Au] at ai;obtain⟨rfl,_,rfl⟩:=ai;have ap:=HV.o i o aj;have al:=HD.o i o aj (Aq _);have am:=az.o a[i] (Cr o);rw[al] at ap;have e0:wr.cell? ⟨g,i*2,S⟩=V (I (Aa a[i].1.name)):=by
    rw[Ap HO.o (i*2) (by omega),tB encH 2 (fun _=>rfl) a (i*2) (by omega),Nat.mul_div_cancel _ (by decide),Sc a i o,Nat.mul_mod_left];rfl
   have e1:wr.cell? ⟨g,i*2+1,S⟩=V (X a[i].2.1 a[i].2.2.1 a[i].2.2.2):=by
    rw[Ap HO.o (i*2+1) (by omega),tB encH 2 (fun _=>rfl) a (i*2+1) (by omega),show(i*2+1) / 2=i by omega,Sc a i o,show(i*2+1) % 2=1 by omega];rfl
   obtain⟨vR,ao,H⟩:=ap;have aE:vR=X a[i].2.1 a[i].2.2.1 a[i].2.2.2:=by
    have b:=congrArg (fun l=>l[1]?) ao;simp[encH] at b;exact b.symm
   subst aE;have p:=Ac wr (Ae #[I (Aa a[i].1.name),X a[i].2.1 a[i].2.2.1 a[i].2.2.2] 146) S;have ab:Y (Am prog 153 #[X a[i].2.1 a[i].2.2.1 a[i].2.2.2,.func (.func 154) #[] #[]] (wr.alloc (Ae #[I (Aa a[i].1.name),X a[i].2.1 a[i].2.2.1 a[i].2.2.2] 146)) fun e w'=>e=Af (Cm #[])/\∃m:A P.Hst,Z m=Z a/\(w'.ownsRow B 146 2 (Fo1 (Z d) g vc) (Z d) (a.map encH).flatten)/\(∀j (b:j<Z a) (n:j<Z m),PHostVal w' (encH a[j]) m[j])/\(∀j (b:j<Z a) (n:j<Z m),j<i+1->SrtR a[j].1 m[j])/\(∀j (b:j<Z a) (n:j<Z m),i+1<=j->m[j]=a[j].1)/\(Kept B [146,213] w w')/\(w'.heap[w.heap.size]?=V (Ae #[X S 0 0] 88))):=by
    refine(pn B a[i].1.rules (H.keep p (za _ _)) am (fun k F=>au.o a[i] (Cr o) k F)).mono ?_;rintro e w2 ⟨rfl,ah,aG,aH,ak,aF,aB,aC,aD⟩;refine⟨rfl,r.set i ⟨a[i].1.name,aF⟩,by simpa using C,x7 (zK HO.o p (fun k F c=>by cases c)) ah aH (by decide),?_,?_,?_,(E.o.trans (xJ p)).trans ak,?_⟩
    ·intro j b n
     rw[List.getElem_set]
     by_cases q:i=j
     ·subst q
      rw[Az rfl];exact⟨_,rfl,aB⟩
     ·rw[Aw q]
      refine((HV.o j b (by simpa using n)).keep p (za _ _)).away ah aG ?_;intro k F an;have s:=Vk.1 aq.o;rcases Nat.lt_or_gt_of_ne q with hl|hl
      ·have:=s i j (by simpa using o) (by simpa using b) hl k
       rw[Ha,Ha] at this;exact this an F
      ·have:=s j i (by simpa using b) (by simpa using o) hl k
       rw[Ha,Ha] at this;exact this F an
    ·intro j b n hj
     rw[List.getElem_set]
     by_cases q:i=j
     ·subst q
      rw[Az rfl];exact⟨rfl,aC,aD⟩
     ·rw[Aw q]
      exact HS.o j b (by simpa using n) (by omega)
    ·intro j b n hj
     rw[List.getElem_set,Aw (by omega)];exact HD.o j b (by simpa using n) (by omega)
    ·have N:=zE HB.o p (by simp)
     rw[ak.block w.heap.size (zO N) (Bf fun c t f hb=>by rw[N] at hb;cases hb;decide)];exact N
   clear ao H p al am;obtain⟨di,af⟩:∃x,x=a[i]:=⟨_,rfl⟩;rw[<-af] at e0 e1 ab;clear af;clear HV HS HD HO E HB;go_wp2_with (go_at_call 153;refine ab.o.mono ?_;rintro e w2 ⟨rfl,m,q1,q2,q3,q4,q5,q6,q7⟩)
   go_roundw
   ·exact⟨i+1,m,by omega,by go_num,q1,q2,q3,q4,q5,q6,q7⟩
   ·simp[intOf];omega
  ·have c0:=cbi 0 HB.o
   have f0:=zm9 0 HB.o;have HE:Y (i=Z d):=by show i=Z d;omega
   go_wp2;have y:=zF wr w.heap.size 0 (X va (Z d) vc);have sf:Safe wr (V w.heap.size) phtags:=xQ HB.o (by decide);refine Et (v:=.agg #[X va (Z d) vc]) (by simp[Hm,results103,go_sem,c0]) rfl ⟨rfl,?_,r,?_,a.map Bq,ax.o,ay.o,by simpa using C,?_⟩
   ·refine⟨E.o.os,E.o.tape,E.o.output,Bi E.o.size y.size,fun k F ht=>?_⟩
    rw[y.block k (Eh F E.o.size) (fun e=>by cases e;omega)];exact E.o.block k F ht
   ·refine⟨a.map encH,?_,iN encH a r C fun j b n=>(HV.o j b n).keep y (jW sf)⟩
    rw[C,Q];exact x7 HO.o y sf (by decide)
   ·intro j b n
    rw[Ha];have h3:j<Z a:=by simpa using b
    exact HS.o j h3 n (by rw[HE.o,<-Q];exact h3)
theorem zf9 {s:As}(c:w.heap[rb]?=V (Ae #[I s,O Ai 0,O Ai 0,I ⟨#[]⟩,Av false,O Ai 0,O Ai 0] 204 (0,0)))(b:s.size<=1000000000000):Am prog 100 #[Al (V ⟨rb,0,S⟩),O Ai 0] w fun e w'=>e=Af (Cm #[])/\PInv w' rb s (kW s.data.toList)/\w.grownBy w' (V rb):=by
 have n:=cbi 0 c;have h:=J c;have l:Y _:=fun w=>tT s 0 w b (Ax _)
 have i:Y (kW s.data.toList=⟨zg s.data.toList 0,false,0,0⟩):=rfl;have f:Y (∃q,q<=s.size/\zg s.data.toList 0=zg s.data.toList q):=⟨0,Ax _,rfl⟩;generalize zg s.data.toList 0=t at*;go_in;go_wp2_with fail;refine(l.o _).mono ?_;rintro e g ⟨rfl,d⟩;have a:=zE h.o d (by simp);have o:=cbi 1 a;have p:=cbi 2 a;have r:=cbi 3 a;have u:=zm9 1 a;have v:=zm9 2 a;have x:=zm9 3 a;have m:=J a;have j:=J d;go_wp2
 go_end0
 have d:g.grownBy (((g.setCell ⟨rb,1,S⟩ (O Ai t.k)).setCell ⟨rb,2,S⟩ (O Ai t.at_)).setCell ⟨rb,3,S⟩ (I (Aa t.raw))) (V rb):=
  zD (zD (zF _ _ _ _) (zF _ _ _ _)) (zF _ _ _ _)
 refine⟨rfl,?_,zD (zT j.o _) d⟩;rw[i.o];exact⟨zH (zH (zH m.o _) _) _,b,f.o⟩
def yV (p:P.St):Ak×Ak:=if p.broken then (2,p.tok.at_) else if p.err≠0 then (p.err,p.fat) else (0,0)
theorem lZ (s:As)(w:Ag)(aD:s.size<=1000000000000)(hG:Glob w)
  (H:(zp s.data.toList).2.broken=false->(zp s.data.toList).2.err=0->Z (zp s.data.toList).1<=12/\∀h∈(zp s.data.toList).1,Z h.rules<=12):Am prog 67 #[I s] w fun e w'=>∃v,e=Af (Cm #[Fe #[v],O Ai (yV (zp s.data.toList).2).1,O Ai (yV (zp s.data.toList).2).2])/\w.grownBy w' S/\
   ((zp s.data.toList).2.broken=false->(zp s.data.toList).2.err=0->∃l,PHostsRow w' 0 v l/\SrtH (zp s.data.toList).1 l)/\∃a n c,v=X a n c:=by
 have HR:Y (zp s.data.toList=((qg s.data.toList (Z s.data.toList+1) (kW s.data.toList) []).1,jk s.data.toList (qg s.data.toList (Z s.data.toList+1) (kW s.data.toList) []).2)):=rfl;have HL:Y _:=fun w rb h=>zf9 (w:=w) (rb:=rb) (s:=s) h aD
 have HH:Y _:=fun w rb (h:PInv w rb s (kW s.data.toList)) (hG:Glob w) (hrb:rb≠0)=>zf7 h hG hrb
 have aa:Y (∀w rb,PInv w rb s (qg s.data.toList (Z s.data.toList+1) (kW s.data.toList) []).2->Am prog 102 #[Al (V ⟨rb,0,S⟩)] w fun e w'=>e=Af (Cm #[])/\PInv w' rb s (jk s.data.toList (qg s.data.toList (Z s.data.toList+1) (kW s.data.toList) []).2)/\w.grownBy w' (V rb)):=fun w rb h=>oC h
 generalize zp s.data.toList=rd at*;generalize kW s.data.toList=st0 at*;generalize qg s.data.toList (Z s.data.toList+1) st0 []=q at*;generalize jk s.data.toList q.2=pe at*;obtain⟨hs,qs⟩:=q;have HQ:=J (HR.o);have r:pe.broken=false->pe.err=0->Z hs<=12/\∀h∈hs,Z h.rules<=12:=by rw[HQ.o] at H;exact H
 have ae:=J (hG);rw[HQ.o];simp only;have ah:=J r;have al:w.grownBy ((w.alloc (Ae #[X S 0 0] 88)).alloc (Ae #[I s,O Ai 0,O Ai 0,I ⟨#[]⟩,Av false,O Ai 0,O Ai 0] 204)) S:=zD (Ac _ _ _) (Ac _ _ _);have ab:=J al;have p:Y (((w.alloc (Ae #[X S 0 0] 88)).alloc (Ae #[I s,O Ai 0,O Ai 0,I ⟨#[]⟩,Av false,O Ai 0,O Ai 0] 204)).heap[w.heap.size+1]?=V (Ae #[I s,O Ai 0,O Ai 0,I ⟨#[]⟩,Av false,O Ai 0,O Ai 0] 204)):=by
  have:=Bn (w.alloc (Ae #[X S 0 0] 88)) (Ae #[I s,O Ai 0,O Ai 0,I ⟨#[]⟩,Av false,O Ai 0,O Ai 0] 204);rw[show(w.alloc (Ae #[X S 0 0] 88)).heap.size=w.heap.size+1 by simp] at this;exact this
 have m:Y (((w.alloc (Ae #[X S 0 0] 88)).alloc (Ae #[I s,O Ai 0,O Ai 0,I ⟨#[]⟩,Av false,O Ai 0,O Ai 0] 204)).heap[w.heap.size]?=V (Ae #[X S 0 0] 88)):=zE (Bn w (Ae #[X S 0 0] 88)) (Ac _ _ S) (by simp);go_in;go_wp2_with fail;refine(HL.o _ _ p.o).mono ?_;rintro e w1 ⟨rfl,ai,C⟩;have af:=J ai;have g:=J (ze ab.o C (by omega));have aA:=J (g.o.size);have N:=J (zE m.o C (by simp));have o:=J (ae.o.keep g.o (by simp));go_wp2_with fail;refine(HH.o _ _ af.o o.o (by omega)).mono ?_;rintro e w2 ⟨v,rfl,aj,E,z⟩;obtain⟨va,vc,rfl⟩:=PHosts.len z;have y:=J (aj);have ag:=J (z);have ad:=J (ze g.o E (by omega));have Q:=J (zE N.o E (by simp));go_wp2_with fail;refine(aa.o _ _ y.o).mono ?_;rintro e w3 ⟨rfl,ak,k⟩;have i:=J (ak);have ax:=J (PHosts.keep ag.o k (y.o.safe (by decide)));have x:=J (ze ad.o k (by omega));have d:=J (zE Q.o k (by simp));have c2:=cbi 2 i.o.rd;have c4:=cbi 4 i.o.rd;have c5:=cbi 5 i.o.rd;have c6:=cbi 6 i.o.rd;have b0:=cbi 0 d.o;have f0:=zm9 0 d.o
 by_cases j:pe.broken=true
 ·have HE:Y (yV pe=(2,(pe.tok.at_:Ak))):=by show yV pe=_;unfold yV;rw[Az j]
  go_wp2
  go_region
  all_goals
   go_wp2;refine Et (v:=.tuple #[Fe #[X S 0 0],O Ai 2,O Ai pe.tok.at_]) (by simp[Hm,results67,go_sem,b0]) rfl ⟨_,by rw[HE.o],zD (ze x.o (zF w3 w.heap.size 0 (X S 0 0)) (Aq _)) (zV _),fun h=>absurd h (by rw[j];decide),_,_,_,rfl⟩
 ·have B:pe.broken=false:=by simpa using j
  by_cases b:pe.err=0
  ·have HE:Y (yV pe=(0,0)):=by show yV pe=_;unfold yV;rw[Aw (by rw[B];simp),Aw (by simpa using b)]
   obtain⟨an,ao⟩:=ah.o B b;have aC:(pe.err != 0)=false:=by rw[b];rfl
   have au:=J an;have av:=J ao;go_wp2_with fail;refine(lr hs ax.o au.o av.o).mono ?_;rintro e w4 ⟨rfl,F,l,ap,aq⟩;have ar:Y (w.grownBy w4 S):=((xJ x.o).trans (F.floor aA.o)).grown (Aq _);have ay:=J (ap);have az:=J (aq);have u:Y (w4.heap[w.heap.size]?=V (Ae #[X S 0 0] 88)):=by
    show w4.heap[w.heap.size]?=_;rw[F.block w.heap.size (zO d.o) (Bf fun c t f hb=>by rw[d.o] at hb;cases hb;decide)];exact d.o
   have b4:=cbi 0 u.o;have f4:=zm9 0 u.o;go_wp2;have am:=zF w4 w.heap.size 0 (X va (Z hs) vc);refine Et (v:=.tuple #[Fe #[X va (Z hs) vc],O Ai 0,O Ai 0]) (by simp[Hm,results67,go_sem,b4]) rfl ⟨_,by rw[HE.o],ze ar.o am (Aq _),fun _ _=>⟨l,?_,az.o⟩,_,_,_,rfl⟩;obtain⟨aB,r1,r2⟩:=ay.o;exact PHostsRow.keep ⟨aB,zo r1 (Ax _),r2⟩ am (xQ u.o (by decide))
  ·have HE:Y (yV pe=(pe.err,pe.fat)):=by show yV pe=_;unfold yV;rw[Aw (by rw[B];simp),Az b]
   have aC:(pe.err != 0)=true:=by rw[Qv];exact b
   have aw:=J (b);go_wp2
   go_region
   all_goals
    go_wp2;refine Et (v:=.tuple #[Fe #[X S 0 0],O Ai pe.err,O Ai pe.fat]) (by simp[Hm,results67,go_sem,b0]) rfl ⟨_,by rw[HE.o],zD (ze x.o (zF w3 w.heap.size 0 (X S 0 0)) (Aq _)) (zV _),fun _ h=>absurd h aw.o,_,_,_,rfl⟩
def xA (l:A Ab):Ak×Ak:=if 3000<Z l then (1,0) else yV (zp l).2
theorem wg {p:P.St}(h:(yV p).1=0):p.broken=false/\p.err=0:=by grind[yV,P.St]
theorem o5 (s:As)(w:Ag)(m:s.size<=Bh)(q:Glob w)
  (j:s.size<=3000->(zp s.data.toList).2.broken=false->(zp s.data.toList).2.err=0->Z (zp s.data.toList).1<=12/\∀h∈(zp s.data.toList).1,Z h.rules<=12):Am prog 41 #[I s] w fun e w'=>∃v,e=Af (Cm #[Fe #[v],O Ai (xA s.data.toList).1,O Ai (xA s.data.toList).2])/\w.grownBy w' S/\
   ((xA s.data.toList).1=0->∃b,PHostsRow w' 0 v b/\SrtH (zp s.data.toList).1 b)/\∃a n c,v=X a n c:=by
 unfold Bh at m;have f:Y ((w.alloc (Ae #[X S 0 0] 88)).heap[w.heap.size]?=V (Ae #[X S 0 0] 88)):=Bn _ _;have k:Y (w.grownBy (w.alloc (Ae #[X S 0 0] 88)) S):=Ac _ _ S
 by_cases d:3000<s.size
 ·have p:Y (xA s.data.toList=(1,0)):=by show xA _=_;unfold xA;rw[Az (by rw[Cp];exact d)]
  generalize xA s.data.toList=er at*;have F:=cbi 0 f.o;go_in;go_wp2;refine Et (v:=.tuple #[Fe #[X S 0 0],O Ai 1,O Ai 0]) (by simp[Hm,results41,go_sem,F]) rfl ⟨_,by rw[p.o],k.o,fun h=>absurd h (by rw[p.o];decide),_,_,_,rfl⟩
 ·have B:s.size<=3000:=by omega
  have p:Y (xA s.data.toList=yV (zp s.data.toList).2):=by show xA _=_;unfold xA;rw[Aw (by rw[Cp];exact d)]
  have x:Y (∀w,Glob w->Am prog 67 #[I s] w fun e w'=>∃v,e=Af (Cm #[Fe #[v],O Ai (xA s.data.toList).1,O Ai (xA s.data.toList).2])/\w.grownBy w' S/\
   ((xA s.data.toList).1=0->∃b,PHostsRow w' 0 v b/\SrtH (zp s.data.toList).1 b)/\∃a n c,v=X a n c):=fun w q=>by
    rw[p.o];exact(lZ s w (by omega) q (j B)).mono fun e w' ⟨v,y,z,h3,h4⟩=>⟨v,y,z,fun h=>h3 (wg h).1 (wg h).2,h4⟩
  generalize xA s.data.toList=er at*;generalize zp s.data.toList=rd at*;have r:Y (Glob (w.alloc (Ae #[X S 0 0] 88))):=q.keep (Ac _ _ S) (by simp);go_in;go_wp2_with fail;refine(x.o _ r.o).mono ?_;rintro e N ⟨v,rfl,i,o,C,E,vc,rfl⟩;have t:Y _:=zD k.o i;have u:=J o;have g:=J (zE f.o i (by simp));have H:=cbi 0 g.o;have Q:=zm9 0 g.o;go_wp2;have l:=zF N w.heap.size 0 (X C E vc);refine Et (v:=.tuple #[Fe #[X C E vc],O Ai er.1,O Ai er.2]) (by simp[Hm,results41,go_sem,H]) rfl ⟨_,rfl,ze t.o l (Aq _),fun h=>?_,_,_,_,rfl⟩;obtain⟨b,y,z⟩:=u.o h;exact⟨b,PHostsRow.keep y l (xQ g.o (by decide)),z⟩
def wtags:A Cs:=[143,5]
structure WAt (w:Ag) (wb:Ad) (p:Aj) (l:A Ab) (op:Ak):Prop where
 ex:∃v,w.heap[wb]?=V (Ae #[p,v,O Ai op] 143 (0,0))/\w.ownsRow (wb+1) 5 1 v (Z l) (Lib.byteCells l)
def WInv (w:Ag)(wb:Ad)(l:A Ab)(op:Ak):Prop:=WAt w wb (Al S) l op\/WAt w wb (Al (V ⟨wb,0,S⟩)) l op
theorem rH:(prog.info? 141).map (·.size)=V 2:=by kernel_rfl
theorem jD:(prog.info? 5).map (fun i=>(i.zero,i.size,i.bytes))=V (V (O .u8 0),1,1):=by kernel_rfl
theorem zjH:liesAt prog (prog).depth 143 (3 / (prog).cellsOf 143) 0 141 1=true:=by kernel_rfl
theorem zbN (b:Ad)(w:Ag)(c:Fh Aj)(d:w.heap[b]?=V (Ae c 143 (0,0)))(i:c.size=3)(h:c[0]?=V (Al S)):Am prog 214 #[Al (V ⟨b,0,S⟩)] w fun e w'=>e=Af (Cm #[])/\w'=w.setCell ⟨b,0,S⟩ (Al (V ⟨b,0,S⟩)):=by
 obtain⟨j,g,f⟩:=Oz.1 rH;have k:w.cell? ⟨b,0,S⟩=V (Al S):=by rw[Lib.cell_of_heap d];exact h
 have l:=zm9 0 d;have a:w.shape? b=V (143,3):=by simp[World.shape?,d,i]
 go_in;go_wp2;rw[Lib.run_to_unsafe w ⟨b,0,S⟩ underlying139 underlying386 g (by rw[f];decide) a (Nat.zero_lt_succ 2)];simp only[Result.andThen];rw[Oper.upon_value];go_wp2;rw[run_callFunc_extern func294 (by kernel_rfl) (by kernel_rfl) (by kernel_rfl) (e:=Extern.AbiNoEscape.same) (by kernel_rfl)];rw[Lib.run_noEscape];simp only[Result.andThen];rw[Oper.upon_value];go_wp2;rw[Lib.run_from_unsafe w ⟨b,0,S⟩ underlying386 underlying139 g a zjH];simp only[Result.andThen];rw[Oper.upon_value];go_wp2
 go_end0
 exact⟨rfl,rfl⟩
theorem zbO (b:Ad)(w:Ag)(d:w.cell? ⟨b,0,S⟩=V (Al (V ⟨b,0,S⟩))):Am prog 214 #[Al (V ⟨b,0,S⟩)] w fun e w'=>e=Af (Cm #[])/\w'=w:=by
 obtain⟨j,a,c⟩:=Oz.1 rH;go_in;go_wp2;rw[Lib.run_neq_ptr_same w _ underlying139 a];go_wp2
 go_end0
 exact⟨rfl,rfl⟩
variable {op:Ak}
theorem sH {a:Ad}{l:A Ab}(h:WInv w a l op):Am prog 214 #[Al (V ⟨a,0,S⟩)] w fun e w'=>e=Af (Cm #[])/\WAt w' a (Al (V ⟨a,0,S⟩)) l op/\Kept a wtags w w':=by
 rcases h with ⟨v,b,c⟩|h
 ·refine(zbN a w _ b rfl rfl).mono ?_
  rintro e w' ⟨rfl,rfl⟩;have d:=zF w a 0 (Al (V ⟨a,0,S⟩));exact⟨rfl,⟨v,zH b _,zK c d (fun k hk e=>by have:=(An c k hk).1;cases e;omega)⟩,v8 d b (by decide) (Aq _)⟩
 ·obtain⟨v,b,c⟩:=id h
  refine(zbO a w (zB b)).mono ?_;rintro e w' ⟨rfl,rfl⟩;exact⟨rfl,h,Kept.refl _ _ _⟩
theorem oN {l:A Ab}(h:WInv w d l op)(s:As)(hl:Z l+s.size<=140737488355328):Am prog 156 #[Al (V ⟨d,0,S⟩),I s] w fun e w'=>e=Af (Cm #[O Ai s.size,.nilIface])/\WInv w' d (l++s.data.toList) op/\Kept d wtags w w':=by
 obtain⟨i0,N,t,u,x⟩:=Ej jD;have z:=J (sH h);go_in;go_wp2_with fail;refine z.o.mono ?_;rintro e w1 ⟨rfl,⟨v,o,C⟩,p⟩;have E:=J o;have n:=J (C);have F:=J p;have c1:=cbi 1 o;have Q:=zO o;go_wp2_with (at_builtin;refine Lib.wpList_append_own_string _ rfl _ _ 32 9 rfl (d+1) 5 i0 underlying32 underlying9 N t u x _ _ _ rfl n.o s rfl ?c3 ?c4 ?c5 ?_)
 ·unfold Bh;omega
 ·omega
 ·omega
 intro v' y b a _;obtain⟨va,vc,rfl⟩:=zL b;have f:y.heap[d]?=V (Ae #[Al (V ⟨d,0,S⟩),v,O Ai op] 143 (0,0)):=zE E.o a (fun e=>by have:=(An n.o d e.symm).1;omega);have i:=J f;have m:Kept d wtags w1 y:=by
  cases hv:v.ownBlock with
  |none=>rw[hv] at a;exact xJ a
  |some g=>
   rw[hv] at a;obtain⟨c,H⟩:=qT n.o g hv;exact v8 a H (by decide) (by have:=(An n.o g hv).1;omega)
 have q:Y _:=F.o.trans m;have j:=J b;have d1:=cbi 1 f;have f1:=zm9 1 f;go_wp2
 go_ret2
 have B:=zF y d 1 (X va (Z l+s.size) vc);refine⟨rfl,Bf ⟨_,zH i.o _,?_⟩,q.o.trans (v8 B i.o (by decide) (Aq _))⟩;have r:=zK j.o B (fun k p e=>by have:=(An j.o k p).1;cases e;omega);rw[Ah,Cp,Hl];exact r
theorem zfQ {l:A Ab}(h:WInv w d l op)(c:Ab)(hl:Z l+1<=140737488355328):Am prog 158 #[Al (V ⟨d,0,S⟩),O .u8 c.toNat] w fun e w'=>e=Af .nilIface/\WInv w' d (l++[c]) op/\Kept d wtags w w':=by
 obtain⟨i0,hi,z,B,C⟩:=Ej jD;have H:=J (sH h);go_in;go_wp2_with fail;refine H.o.mono ?_;rintro e E ⟨rfl,⟨v,r,Q⟩,t⟩;have HB:=J r;have q:=J (Q);have HK:=J t;have c1:=cbi 1 r;have aa:=zO r;go_wp2_with (at_builtin;refine Cu _ rfl _ _ 32 rfl (d+1) 5 i0 _ 1 1 underlying32 hi z B C rfl (by decide) _ _ _ rfl (Ao q.o _) ⟨E.heap.size,0,S⟩ 1 1 [O .u8 c.toNat] rfl ?a1 ?a2 ?a3 ?a4 ?a5 ?a6 ?_)
 ·rfl
 ·
  intro j u s
  match j,s with
  |0,s=>simp at s;subst s;simp[Qp]
 ·intro u hu;simp at hu;subst hu;rfl
 ·unfold Bh;omega
 ·omega
 ·simp;omega
 intro v' F b a _;obtain⟨va,vc,rfl⟩:=zL b;have i:=Ac E (Ae #[O .u8 c.toNat] 5) S;have o:=zE HB.o i (by simp);have f:F.heap[d]?=V (Ae #[Al (V ⟨d,0,S⟩),v,O Ai op] 143 (0,0)):=zE o a (fun e=>by have:=(An q.o d e.symm).1;omega);have m:=J f;have p:Kept d wtags E F:=by
  refine(xJ i).trans ?_
  cases hv:v.ownBlock with
  |none=>rw[hv] at a;exact xJ a
  |some g=>
   rw[hv] at a;obtain⟨c,hc⟩:=qT (Ao q.o _) g hv;exact v8 a hc (by decide) (by have:=(An q.o g hv).1;omega)
 have x:Y _:=HK.o.trans p;have n:=J b;have d1:=cbi 1 f;have f1:=zm9 1 f;go_wp2;go_ret;have N:=zF F d 1 (X va (Z l+1) vc);refine⟨rfl,Bf ⟨_,zH m.o _,?_⟩,x.o.trans (v8 N m.o (by decide) (Aq _))⟩;have y:=zK n.o N (fun k t e=>by have:=(An n.o k t).1;cases e;omega);rw[Ah,Hl];exact y
def xR (k i:Ad):Ad:=if i % 2=0 then k % 256 else k / 256 % 256
theorem fX (k i:Ad)(w:Ag)(d:k<1000000000000)(c:i<1000000000000000):Am prog 65 #[O Ai k,O Ai i] w fun e w'=>e=Af (O .u8 (xR k i:Ad))/\w'=w:=by
 have a:Y (xR k i=if i % 2=0 then k % 256 else k / 256 % 256):=rfl;generalize xR k i=r at*
 by_cases h:i % 2=0
 ·rw[Az h] at a
  have b:((i:Ak) % 2=0):=by omega
  go_in;go_wp2;go_ret;refine⟨?_,rfl⟩;rw[a.o];show Af (O .u8 ((k:Ak) % 256))=_
  go_num
 ·rw[Aw h] at a
  have b:¬((i:Ak) % 2=0):=by omega
  go_in;go_wp2;go_ret;refine⟨?_,rfl⟩;rw[a.o];show Af (O .u8 ((k:Ak) / 256 % 256))=_
  go_num
end Go.Proofs.YtfocdefchbnkpaaGreatDoor
