import Derived.Test.YtfocdefchbnkpaaGreatDoorYdE
set_option maxRecDepth 100000
set_option maxHeartbeats 20000000
open Go renaming Value->Aj,World->Ag,Addr->Eu,Calls->Am,info_parts->Ej,maxLen->Bh,wpList_append_lies->Ei,TypeId->Cs
open Go.Act renaming eval->Im
open Go.Ending renaming returned->Af
open Go.IntKind renaming i64->Ai,u8->Bp
open Go.Lib renaming cut->Ca,hasSuffix->Ov,index->Es,hasPrefix->Mx,byteCells->Ba
open Go.Obj renaming cells->Ae
open Go.Proofs.YtfocdefchbnkpaaGreatDoor.R renaming str->Aa,allB->Ec,str_size->Bz,str_toList->Be,lower->Cj
open Go.Value renaming slice->X,int->O,string->I,bool->Av,pointer->Al,tuple->Cm
open Go.World renaming grownBy_alloc->Ac,block_lt_of_cell?->Mk,ownsRow_nil->Bk
open Go.World.ownsRow renaming alloc->Ao,lt->An
open List renaming length->Z
open Option renaming none->S,some->V
open Or renaming inl->Ay,inr->Bf
open _root_ renaming List->A,Nat->Ad,Option->Br,Array->Fh,UInt8->Ab,Int->Ak
namespace Go.Proofs.YtfocdefchbnkpaaGreatDoor
open Go.RowKit Tryz
def D.new:A Aj:=[Av false,X S 0 0,O Ai 0,I ⟨#[]⟩,I ⟨#[]⟩,X S 0 0,O Ai 0,I ⟨#[]⟩,I ⟨#[]⟩]
theorem zk8:(prog.info? 195).map (fun i=>(i.zero,i.size,i.bytes))=V (V (.agg #[Av false,X S 0 0,O Ai 0,I ⟨#[]⟩,I ⟨#[]⟩,X S 0 0,O Ai 0,I ⟨#[]⟩,I ⟨#[]⟩]),9,136):=by kernel_rfl
variable {w w':Ag}{ck yb B n b o g f m i j k:Ad}
theorem px {ca:Br Eu}{c b d f:Aj}(a:w.heap[yb]?=V (Ae #[c,b,d,X ca 64 ck,f] 131 (0,0))):Am prog 61 #[Al (V ⟨yb,0,S⟩)] w fun e w'=>e=Af (Cm #[O Ai 0,O Ai 7])/\w'=w:=by
 have g:=cbi 3 a;go_in;go_wp2
 go_ret2
 exact⟨rfl,rfl⟩
variable {N Q vd vs v s u l p:Aj}
abbrev Mc0:=Ae #[Av false,X S 0 0,O Ai 0,I ⟨#[]⟩,I ⟨#[]⟩,X S 0 0,O Ai 0,I ⟨#[]⟩,I ⟨#[]⟩] 195
abbrev Mc1 (a b c):=X (V ⟨a,0,S⟩) (b+1) c
theorem ziH {ca:Br Eu}{c:A Aj}(x:w.heap[yb]?=V (Ae #[Q,N,vd,X ca n ck,vs] 131 (0,0)))(ho:w.ownsRow B 195 9 (X ca n ck) n c)(hn:n<64)(hB:B<=w.heap.size):Am prog 61 #[Al (V ⟨yb,0,S⟩)] w fun e w'=>e=Af (Cm #[O Ai (n+1:Ad),O Ai 0])/\∃b a,w'.heap[yb]?=V (Ae #[Q,N,vd,(Mc1 b n a),vs] 131 (0,0))/\w'.ownsRow B 195 9 (Mc1 b n a) (n+1) (c++D.new)/\((X ca n ck).ownBlock=V b\/w.heap.size<=b)/\Turn w w' (fun k=>k=yb\/(X ca n ck).ownBlock=V k):=by
 have k3:=cbi 3 x;have gX:=hid (Ac w Mc0 S);have q:=hid (Ao ho Mc0);have h:=hid (zE x gX.o);have p:=hid (zI h.o q.o);obtain⟨i0,hi,C,E,F⟩:=Ej zk8;have s:Y (∀j u,D.new[j]?=V u->(w.alloc Mc0).cell? ((⟨w.heap.size,0,S⟩:Eu).add j)=V u):=zZ w #[_,_,_,_,_,_,_,_,_] _ _ rfl;have r:=J (Mq.1 (by rfl:D.new.all (fun u=>u.oneCell')=true));have y:n+1<=Bh:=by unfold Bh;omega
 have z:(n+1)*136<=140737488355328:=by omega
 have H:(w.alloc Mc0).heap.size=w.heap.size+1:=by simp
 have v:B<=(w.alloc Mc0).heap.size:=by omega
 have m:Y (∀b a l,l.ownsRow B 195 9 (Mc1 b n a) (n+1) (c++D.new)->(w.alloc Mc0).grownBy l (X ca n ck).ownBlock->((X ca n ck).ownBlock=V b\/b=w.heap.size+1)->(l.setCell ⟨yb,3,S⟩ (Mc1 b n a)).heap[yb]?=V (Ae #[Q,N,vd,(Mc1 b n a),vs] 131 (0,0))/\(l.setCell ⟨yb,3,S⟩ (Mc1 b n a)).ownsRow B 195 9 (Mc1 b n a) (n+1) (c++D.new)/\((X ca n ck).ownBlock=V b\/w.heap.size<=b)/\Turn w (l.setCell ⟨yb,3,S⟩ (Mc1 b n a)) (fun k=>k=yb\/(X ca n ck).ownBlock=V k)):=fun b a l h1 h2 h3=>by
  have f:=zw h.o h2 p.o;have gs:=zF l yb 3 (Mc1 b n a);exact⟨zH (i:=3) f _,zJ h1 gs (zI f h1),h3.imp id (fun e=>by omega),(((Turn.refl w _).step gX.o (fun k hk=>by cases hk)).step h2 (fun k hk=>Ay (Bf hk))).step gs (fun k hk=>Ay (Ay (Bc hk).symm))⟩
 go_in;go_wp2_with (at_builtin;refine Ei _ rfl _ _ 129 rfl B 195 i0 _ 9 136 underlying129 hi C E F rfl (by decide) _ _ _ rfl q.o ⟨w.heap.size,0,S⟩ 1 1 D.new rfl rfl s.o r.o (by decide) y z v (w.heap.size+1) H ?_);intro b a l g d o t;have HE:=hid (m.o b a l g d o);have f:=zw h.o d p.o;have q9:=cbi 3 f;have f9:=zm9 3 f;have aa:=cbi 3 HE.o.1;go_wp2
 go_ret2
 exact⟨rfl,b,a,HE.o⟩
variable {T:Cs}
theorem pz {c:Fh Aj}{g h vc i x:Aj}(f:w.heap[yb]?=V (Ae #[Av false,g,h,vc,i] 131 (0,0)))(a:w.heap[b]?=V (Ae c T (0,0)))(d:c[o+5]?=V x):Am prog 200 #[Al (V ⟨yb,0,S⟩),Al (V ⟨b,o,S⟩)] w fun e w'=>e=Af (Cm #[])/\w'=w.setCell ⟨b,o+5,S⟩ (I (Aa Yd.noPolicy)):=by
 have k:=cbi 0 f;have l:w.cell? ⟨b,o+5,S⟩=V x:=(zB a).trans d;have j:w.frozen? ⟨b,o+5,S⟩=false:=zG a;go_in;go_wp2;refine bodyPost_ret (results_none rfl _ _ _) rfl ?_;exact⟨rfl,rfl⟩
def yR (cs:Fh Aj)(o:Ad):Fh Aj:=((((((((cs.setIfInBounds o (Av false)).setIfInBounds (o+1) (X S 0 0)).setIfInBounds (o+2) (O Ai 0)).setIfInBounds (o+3) (I ⟨#[]⟩)).setIfInBounds (o+4) (I ⟨#[]⟩)).setIfInBounds (o+5) (X S 0 0)).setIfInBounds (o+6) (O Ai 0)).setIfInBounds (o+7) (I ⟨#[]⟩)).setIfInBounds (o+8) (I ⟨#[]⟩)
def uJ (w:Ag)(g o:Ad):Ag:=(((((((((w.setCell ⟨g,o,S⟩ (Av false)).setCell ⟨g,o+1,S⟩ (X S 0 0)).setCell ⟨g,o+2,S⟩ (O Ai 0)).setCell ⟨g,o+3,S⟩ (I ⟨#[]⟩)).setCell ⟨g,o+4,S⟩ (I ⟨#[]⟩)).setCell ⟨g,o+5,S⟩ (X S 0 0)).setCell ⟨g,o+6,S⟩ (O Ai 0)).setCell ⟨g,o+7,S⟩ (I ⟨#[]⟩)).setCell ⟨g,o+8,S⟩ (I ⟨#[]⟩))
variable {a cs d:Fh Aj}
theorem za8 (h:w.heap[g]?=V (Ae a T (0,0))):(uJ w g o).heap[g]?=V (Ae (yR a o) T (0,0)):=(zH (i:=o+8) (zH (i:=o+7) (zH (i:=o+6) (zH (i:=o+5) (zH (i:=o+4) (zH (i:=o+3) (zH (i:=o+2) (zH (i:=o+1) (zH (i:=o) h _) _) _) _) _) _) _) _) _)
theorem pL (w:Ag)(g o:Ad):w.grownBy (uJ w g o) (V g):=zD (zD (zD (zD (zD (zD (zD (zD (zF w g o _) (zF _ g (o+1) _)) (zF _ g (o+2) _)) (zF _ g (o+3) _)) (zF _ g (o+4) _)) (zF _ g (o+5) _)) (zF _ g (o+6) _)) (zF _ g (o+7) _)) (zF _ g (o+8) _)
theorem cw {E:Ad}{C:Br Eu}{tv th:Aj}{o:Fh Aj}{F:A Aj}{b:A Ab}(hb:w.heap[yb]?=V (Ae #[tv,th,vd,X (V ⟨g,0,S⟩) n ck,X C f E] 131 (0,0)))(hg:w.heap[g]?=V (Ae o 195 (0,0)))(ay:m*9+9<=o.size)(hv:w.ownsRow B 44 3 (X C f E) f F)(hm:m<n)(hn:n<=64)(aw:f<=1000000000)(h7:o[m*9+7]?=V (I ⟨#[]⟩))(h8:o[m*9+8]?=V (I (Aa b)))(hB:B<=w.heap.size):Am prog 201 #[Al (V ⟨yb,0,S⟩),O Ai (m+1:Ad)] w fun e w'=>e=Af (Cm #[])/\∃p d,w'.heap[yb]?=V (Ae #[tv,th,vd,X (V ⟨g,0,S⟩) n ck,X (V ⟨p,0,S⟩) (f+1) d] 131 (0,0))/\w'.ownsRow B 44 3 (Mc1 p f d) (f+1) (F++[O Ai ((m:Ak)+1),I ⟨#[]⟩,I (Aa b)])/\w'.heap[g]?=V (Ae (yR o (m*9)) 195 (0,0))/\((X C f E).ownBlock=V p\/w.heap.size<=p)/\Turn w w' (fun k=>k=yb\/k=g\/(X C f E).ownBlock=V k):=by
 have k3:=cbi 3 hb;have c7:w.cell? ⟨g,m*9+7,S⟩=V (I ⟨#[]⟩):=(zB hg).trans h7;have c8:w.cell? ⟨g,m*9+8,S⟩=V (I (Aa b)):=(zB hg).trans h8;have ax:=Mk w _ c7;have i2:((m:Ad):Ak)<n:=by omega
 have g1:=Ac w (Ae #[O Ai ((m:Ak)+1),I ⟨#[]⟩,I (Aa b)] 44) S;have x:=hid (zE hb g1);have N:=hid (zE hg g1);have ao:=hid (Ao hv (Ae #[O Ai ((m:Ak)+1),I ⟨#[]⟩,I (Aa b)] 44));have y:Y ((w.alloc (Ae #[O Ai ((m:Ak)+1),I ⟨#[]⟩,I (Aa b)] 44)).heap[w.heap.size]?=V (Ae #[O Ai ((m:Ak)+1),I ⟨#[]⟩,I (Aa b)] 44)):=heap_alloc_new _ _;have G1:=hid g1;have az:(w.alloc (Ae #[O Ai ((m:Ak)+1),I ⟨#[]⟩,I (Aa b)] 44)).heap.size=w.heap.size+1:=by simp
 go_in;go_upto_region 5 with fail;generalize w.alloc (Ae #[O Ai ((m:Ak)+1),I ⟨#[]⟩,I (Aa b)] 44)=w1 at*;have gX:=hid (zD (Ac w1 (Ae #[O Ai ((m:Ak)+1),I ⟨#[]⟩,I (Aa b)] 44) S) (zV (w1.alloc (Ae #[O Ai ((m:Ak)+1),I ⟨#[]⟩,I (Aa b)] 44))));have z:=hid (zK ao.o gX.o (fun k hk c=>by cases c));have am:Y (∀j u,([O Ai ((m:Ak)+1),I ⟨#[]⟩,I (Aa b)]:A Aj)[j]?=V u->(w1.alloc (Ae #[O Ai ((m:Ak)+1),I ⟨#[]⟩,I (Aa b)] 44)).drew.cell? ((⟨w1.heap.size,0,S⟩:Eu).add j)=V u):=zZ w1 #[_,_,_] _ _ rfl;have ag:Y (∀u∈([O Ai ((m:Ak)+1),I ⟨#[]⟩,I (Aa b)]:A Aj),u.oneCell'=true):=fun u hu=>by simp at hu;rcases hu with rfl|rfl|rfl <;> rfl
 have al:Y (f+1<=Bh):=by show _<=_;unfold Bh;omega
 have ap:Y ((f+1)*40<=140737488355328):=by show _<=_;omega
 have ad:Y ((w1.alloc (Ae #[O Ai ((m:Ak)+1),I ⟨#[]⟩,I (Aa b)] 44)).drew.heap.size=w1.heap.size+1):=by show _=_;simp
 have aj:Y (B<=(w1.alloc (Ae #[O Ai ((m:Ak)+1),I ⟨#[]⟩,I (Aa b)] 44)).drew.heap.size):=by show _<=_;rw[ad.o];omega
 have ab:=hid (zE x.o gX.o);have ai:=hid (zI ab.o z.o);have aa:=hid (zE N.o gX.o);have ah:=hid (zI aa.o z.o);have af:¬g=yb:=fun e=>by have h:=N.o;rw[e,x.o] at h;simp at h
 have k4:=cbi 4 x.o;have e0:=cbi 0 y.o;have e1:=cbi 1 y.o;have e2:=cbi 2 y.o;have A4:=gX.o.cell k4 (by simp);obtain⟨i0,hi,ar,au,av⟩:=Ej m9
 go_region_law (refine step_append_lies _ rfl (.tmp 50) (.tmp 52) 41 rfl B 44 i0 _ 3 40 underlying41 hi ar au av rfl (by decide) _ _ _ (by simp[Im]) z.o ⟨w1.heap.size,0,S⟩ 1 1 [O Ai ((m:Ak)+1),I ⟨#[]⟩,I (Aa b)] (by simp[Im]) rfl am.o ag.o (by decide) al.o ap.o aj.o (w1.heap.size+1) ad.o ?_;intro p d w9 s l v aq;have Q:=hid s;have H:=hid l;have an:=hid v;have t:=hid (zw ab.o l ai.o);have q9:=cbi 4 t.o;have f9:=zm9 4 t.o;clear s l v aq)
 all_goals
  go_upto_region 6 with fail;have ak:=hid (zw aa.o H.o ah.o);have q:=zH (i:=4) t.o (Mc1 p f d);have gs:=zF w9 yb 4 (Mc1 p f d);have a:=zE ak.o gs (by simp;exact af);have r:=zJ Q.o gs (zI t.o Q.o);have ae:Turn w (w9.setCell ⟨yb,4,S⟩ (Mc1 p f d)) (fun k=>k=yb\/k=g\/(X C f E).ownBlock=V k):=((((Turn.refl w _).step G1.o (fun k hk=>by cases hk)).step gX.o (fun k hk=>by cases hk)).step H.o (fun k hk=>Ay (Bf (Bf hk)))).step gs (fun k hk=>Ay (Ay (Bc hk).symm));generalize w9.setCell ⟨yb,4,S⟩ (Mc1 p f d)=w10 at*;have aA:=cbi 3 q;have p0:w10.cell? ⟨g,m*9,S⟩=V (o[m*9+0]'(by omega)):=(zB a).trans (Fj (by omega));have z0:w10.frozen? ⟨g,m*9,S⟩=false:=zG a;have p1:w10.cell? ⟨g,m*9+1,S⟩=V (o[m*9+1]'(by omega)):=(zB a).trans (Fj (by omega));have z1:w10.frozen? ⟨g,m*9+1,S⟩=false:=zG a;have p2:w10.cell? ⟨g,m*9+2,S⟩=V (o[m*9+2]'(by omega)):=(zB a).trans (Fj (by omega));have z2:w10.frozen? ⟨g,m*9+2,S⟩=false:=zG a;have p3:w10.cell? ⟨g,m*9+3,S⟩=V (o[m*9+3]'(by omega)):=(zB a).trans (Fj (by omega));have z3:w10.frozen? ⟨g,m*9+3,S⟩=false:=zG a;have p4:w10.cell? ⟨g,m*9+4,S⟩=V (o[m*9+4]'(by omega)):=(zB a).trans (Fj (by omega));have z4:w10.frozen? ⟨g,m*9+4,S⟩=false:=zG a;have p5:w10.cell? ⟨g,m*9+5,S⟩=V (o[m*9+5]'(by omega)):=(zB a).trans (Fj (by omega));have z5:w10.frozen? ⟨g,m*9+5,S⟩=false:=zG a;have p6:w10.cell? ⟨g,m*9+6,S⟩=V (o[m*9+6]'(by omega)):=(zB a).trans (Fj (by omega));have z6:w10.frozen? ⟨g,m*9+6,S⟩=false:=zG a;have p7:w10.cell? ⟨g,m*9+7,S⟩=V (o[m*9+7]'(by omega)):=(zB a).trans (Fj (by omega));have z7:w10.frozen? ⟨g,m*9+7,S⟩=false:=zG a;have p8:w10.cell? ⟨g,m*9+8,S⟩=V (o[m*9+8]'(by omega)):=(zB a).trans (Fj (by omega));have z8:w10.frozen? ⟨g,m*9+8,S⟩=false:=zG a;have HP:Y ((uJ w10 g (m*9)).heap[yb]?=V (Ae #[tv,th,vd,X (V ⟨g,0,S⟩) n ck,X (V ⟨p,0,S⟩) (f+1) d] 131 (0,0))/\(uJ w10 g (m*9)).ownsRow B 44 3 (Mc1 p f d) (f+1) (F++[O Ai ((m:Ak)+1),I ⟨#[]⟩,I (Aa b)])/\(uJ w10 g (m*9)).heap[g]?=V (Ae (yR o (m*9)) 195 (0,0))/\((X C f E).ownBlock=V p\/w.heap.size<=p)/\Turn w (uJ w10 g (m*9)) (fun k=>k=yb\/k=g\/(X C f E).ownBlock=V k)):=by
   have gb:=pL w10 g (m*9);exact⟨zE q gb (by simp;exact fun e=>af e.symm),zJ r gb (zI a r),za8 a,an.o.imp id (fun e=>by omega),ae.step gb (fun k hk=>Ay (Bf (Ay (Bc hk).symm)))⟩
  go_wp2
  go_end0
  exact⟨rfl,p,d,HP.o⟩
def D.p1 (l:A Ab):A Ab:=(Ca l [32]).1
def D.p2 (l:A Ab):A Ab:=(Ca (Ca l [32]).2.1 [32]).1
def D.p3 (l:A Ab):A Ab:=(Ca (Ca l [32]).2.1 [32]).2.1
def zcM (l:A Ab):Bool:=(Ca l [32]).2.2 && ((Ca (Ca l [32]).2.1 [32]).2.2 && (Ec yG (D.p2 l) && (decide (D.p3 l=xK) && (decide (1<=Z (D.p1 l)) && (decide (Z (D.p1 l)<=8) && decide ((D.p2 l).head?=V 47))))))
def yl (l:A Ab):Bool:=zcM l && Ec xS (D.p1 l)
def jt (cs:Fh Aj)(o:Ad)(l:A Ab):Fh Aj:=if yl l then (cs.setIfInBounds o (I (Aa (D.p1 l)))).setIfInBounds (o+1) (I (Aa (D.p2 l))) else cs
theorem zg7 (c:w.heap[b]?=V (Ae a T))(x y:Aj):((w.setCell ⟨b,o,S⟩ x).setCell ⟨b,o+1,S⟩ y).heap[b]?=V (Ae ((a.setIfInBounds o x).setIfInBounds (o+1) y) T)/\w.grownBy ((w.setCell ⟨b,o,S⟩ x).setCell ⟨b,o+1,S⟩ y) (V b):=by grind[zH,zD,zF]
theorem zfX (l:A Ab){p:Fh Aj}(hb:w.heap[b]?=V (Ae p T))(ho:o+1<p.size)(hs:Z l<=3000):Am prog 251 #[Al (V ⟨b,o,S⟩),I (Aa l)] w fun e w'=>e=Af (I (Aa (qj (yl l))))/\w'.heap[b]?=V (Ae (jt p o l) T)/\w.grownBy w' (V b):=by
 have r:=hid (mC l 32 w);obtain⟨l1,l2⟩:=fS l 32;obtain⟨l3,l4⟩:=fS (Ca l [32]).2.1 32;have z:Y (∀W,Am prog 254 #[I (Aa (Ca l [32]).2.1),O Bp (32:Ab).toNat] W fun e w'=>e=Af (Cm #[I (Aa (D.p2 l)),I (Aa (D.p3 l)),Av (Ca (Ca l [32]).2.1 [32]).2.2])/\W.grownBy w' S):=fun W=>mC _ 32 W
 have F:Y (∀W,Am prog 314 #[I (Aa (D.p2 l)),Av false] W fun e w'=>e=Af (Av (Ec yG (D.p2 l)))/\w'=W):=fun W=>by
  have h:=od (Aa (D.p2 l)) false W (by rw[Bz];unfold Bh;show(Z (Ca (Ca l [32]).2.1 [32]).1)<=_;omega);rw[Be] at h;exact h
 have a:Y (zcM l=((Ca l [32]).2.2 && ((Ca (Ca l [32]).2.1 [32]).2.2 && (Ec yG (D.p2 l) && (decide (D.p3 l=xK) && (decide (1<=Z (D.p1 l)) && (decide (Z (D.p1 l)<=8) && decide ((D.p2 l).head?=V 47)))))))):=rfl;have u:Y (yl l=(zcM l && Ec xS (D.p1 l))):=rfl;have n:Y (jt p o l=if yl l then (p.setIfInBounds o (I (Aa (D.p1 l)))).setIfInBounds (o+1) (I (Aa (D.p2 l))) else p):=rfl;have ai:Z (D.p1 l)<=3000:=by unfold D.p1;omega
 have ak:Z (D.p2 l)<=3000:=by unfold D.p2;omega
 have e1:(Ca l [32]).1=D.p1 l:=rfl;rw[e1] at r;have q:((Aa (D.p3 l)).toList == [72,84,84,80,47,49,46,49])=decide (D.p3 l=xK):=vC (D.p3 l) xK;have HB:=hid hb;clear l1 l2 l3 l4 e1 hb;generalize jt p o l=cs' at*;generalize yl l=okk at*;generalize zcM l=pre at*;generalize D.p1 l=m at*;generalize D.p2 l=t at*;generalize D.p3 l=v at*;generalize(Ca (Ca l [32]).2.1 [32]).2.2=more at*;generalize Ca l [32]=c1 at*;obtain⟨x1,x2,ok⟩:=c1;simp only at r z a;generalize Ec yG t=good at*;go_in;go_wp2_with fail;refine r.o.mono ?_;rintro e w1 ⟨rfl,g1⟩;have G1:=hid g1;clear r g1;go_wp2_with fail;refine(z.o _).mono ?_;rintro e w2 ⟨rfl,g2⟩;have C:=hid (zD G1.o g2);clear g2 G1;go_wp2_with fail;refine(F.o _).mono ?_;rintro e W2 ⟨rfl,H⟩;obtain rfl:=H.symm;clear H;have hm:=Bz m;have ht:=Bz t;go_upto_region 4 with fail
 go_cut [60] (fun bv wz=>bv=Av (!pre)/\wz=w2)
 ·
  cases ok
  ·go_wp2_with fail
   go_meet
   ·exact⟨by rw[a.o];rfl,rfl⟩
  cases more
  ·go_wp2_with fail
   go_meet
   ·exact⟨by rw[a.o];rfl,rfl⟩
  cases good
  ·go_wp2_with fail
   go_meet
   ·exact⟨by rw[a.o];rfl,rfl⟩
  by_cases B:v=xK
  ·rw[Cf B] at q a
   by_cases h1:1<=Z m
   ·have ab:¬((Z m:Ad):Ak)<1:=by omega
    rw[Cf h1] at a
    by_cases h8:Z m<=8
    ·have ad:¬(8:Ak)<Z m:=by omega
     rw[Cf h8] at a
     cases t with
     |nil=>
      clear B;go_wp2_with fail
      go_meet
      ·exact⟨by rw[a.o];rfl,rfl⟩
     |cons c t'=>
      have ao:(Aa (c::t')).size=Z t'+1:=ht;have aj:¬((Z t':Ad):Ak)+1<1:=by omega
      have am:∀h:0<(Aa (c::t')).size,(Aa (c::t'))[0]'h=c:=fun _=>rfl
      clear ht B
      by_cases hc:c=47
      ·subst hc
       go_wp2_with fail
       go_meet
       ·exact⟨by rw[a.o];rfl,rfl⟩
      ·have ae:¬((c.toNat:Ad):Ak)=47:=fun e=>hc (Hb.1 (by show c.toNat=47;omega))
       have aa:Y (pre=false):=by show _=_;rw[a.o];simp[hc]
       clear hc;go_wp2_with fail
       go_meet
       ·exact⟨by rw[aa.o];first|rfl|simp[ae],rfl⟩
    ·have ad:(8:Ak)<Z m:=by omega
     rw[Ce h8] at a;clear B;go_wp2_with fail
     go_meet
     ·exact⟨by rw[a.o];rfl,rfl⟩
   ·have ab:((Z m:Ad):Ak)<1:=by omega
    rw[Ce h1] at a;clear B;go_wp2_with fail
    go_meet
    ·exact⟨by rw[a.o];rfl,rfl⟩
  ·rw[Ce B] at q a
   clear B;go_wp2_with fail
   go_meet
   ·exact⟨by rw[a.o];rfl,rfl⟩
 ·
  obtain⟨rfl,rfl⟩:=hcut;generalize wc=w2 at*;clear q
  cases pre
  ·have f:Y (okk=false):=u.o
   have j:Y (cs'=p):=by show _=_;rw[n.o,f.o];rfl
   have d:=hid (zE HB.o C.o);go_wp2;go_ret;exact⟨by rw[f.o];rfl,by rw[j.o];exact d.o,zT C.o _⟩
  ·have s:Y (okk=Ec xS m):=u.o
   have g:Y (Ec xS m=Ec xS (Aa m).data.toList):=by show _=_;rw[Be]
   have d:=hid (zE HB.o C.o);go_wp2_with fail
   go_loopw [12] (fun iv wr=>∃k:Ad,k<=Z m/\iv=O Ai k/\Y (Ec xS ((Aa m).data.toList.take k)=true)/\wr=w2) (fun iv _=>Z m-(intOf iv).toNat)
   ·exact⟨0,Ax _,rfl,rfl,rfl⟩
   ·
    obtain⟨k,hk,rfl,Q,rfl⟩:=hrel
    by_cases an:k<Z m
    ·have af:(k:Ak)<Z m:=by omega
     have y:k<(Aa m).size:=by omega
     have HN:Y (xS (Aa m)[k].toNat=false->Ec xS (Aa m).data.toList=false):=fun h=>R.all_false y h
     have HY:Y (xS (Aa m)[k].toNat=true->Ec xS ((Aa m).data.toList.take (k+1))=true):=fun h=>R.all_succ y Q.o h
     clear Q;generalize al:(Aa m)[k]=bb at*
     by_cases N:65<=(bb.toNat:Ak)/\(bb.toNat:Ak)<=90
     ·have H4:Y (Ec xS ((Aa m).data.toList.take (k+1))=true):=HY.o (by unfold xS;simp[N.1,N.2])
      have ag:¬(bb.toNat:Ak)<65:=by omega
      have ah:¬(90:Ak)<bb.toNat:=by omega
      clear N;go_wp2_with fail
      go_roundw
      ·exact⟨k+1,by omega,by go_num,H4,by first|rfl|trivial⟩
      ·simp[intOf];omega
     ·have H3:Y (Ec xS (Aa m).data.toList=false):=HN.o (by unfold xS;simp;omega)
      have f:Y (okk=false):=by show _=_;rw[s.o,g.o,H3.o]
      have j:Y (cs'=p):=by show _=_;rw[n.o,f.o];rfl
      by_cases ag:(bb.toNat:Ak)<65
      ·clear N
       go_wp2;go_ret;exact⟨by rw[f.o];rfl,by rw[j.o];exact d.o,zT C.o _⟩
      ·have ah:(90:Ak)<bb.toNat:=by omega
       clear N;go_wp2;go_ret;exact⟨by rw[f.o];rfl,by rw[j.o];exact d.o,zT C.o _⟩
    ·have af:¬(k:Ak)<Z m:=by omega
     have f:Y (okk=true):=by show _=_;rw[s.o,g.o,R.all_done (by omega) Q.o]
     have j:Y (cs'=(p.setIfInBounds o (I (Aa m))).setIfInBounds (o+1) (I (Aa t))):=by show _=_;rw[n.o,f.o];rfl
     have E:=hid (zg7 (o:=o) d.o (I (Aa m)) (I (Aa t)));have f0:wr.frozen? ⟨b,o,S⟩=false:=zG d.o;have c0:∃x,wr.cell? ⟨b,o,S⟩=V x:=⟨p[o],(zB d.o).trans (Fj (by omega))⟩;have c1:∃x,wr.cell? ⟨b,o+1,S⟩=V x:=⟨p[o+1],(zB d.o).trans (Fj (by omega))⟩;obtain⟨x0,c0⟩:=c0;obtain⟨x1,c1⟩:=c1;have f1:(wr.setCell ⟨b,o,S⟩ (I (Aa m))).frozen? ⟨b,o+1,S⟩=false:=zG (zH (i:=o) d.o _);clear Q;go_wp2;go_ret;exact⟨by rw[f.o];rfl,by rw[j.o];exact E.o.1,zD (zT C.o _) E.o.2⟩
def D.sv (x:Hd):Hd:=(x.1,yU x)
def fD (hd:A Hd)(l:A Ab):A Ab:=if xu l then yN (qF l) hd else jn
theorem zj2 (a:A Ab):∀l:A Hd,xY a (l.map D.sv)=xY a l:=fun l=>by
 unfold xY xt;rw[List.filter_map,Bv]
 rfl
theorem cy (h:a[i]?=V v):a.setIfInBounds i v=a:=by grind
structure D.HPost (w w':Ag) (b o B:Ad) (T:Cs) (cs:Fh Aj) (fv:Aj) (L0:Ak) (hd:A Hd) (l:A Ab):Prop where
 ex:∃fv' L',w'.heap[b]?=V (Ae ((cs.setIfInBounds (o+3) (O Ai L')).setIfInBounds (o+2) fv') T)/\(fD hd l=[]->w'.ownsRow B 185 2 fv' (Z (hd++[qF l])) (zi ((hd++[qF l]).map D.sv))/\L'=if (qF l).1=x5 then xL (qF l).2 else L0)/\(∀k,fv'.ownBlock=V k->fv.ownBlock=V k\/w.heap.size<=k)
 turn:Turn w w' (fun k=>k=b\/fv.ownBlock=V k)
theorem HPost.grown {d:Aj}{c:Ak}{i:A Hd}{l:A Ab}(q:w.heap[b]?=V (Ae a T))(j:a[o+2]?=V d)(m:a[o+3]?=V (O Ai c))(g:w.grownBy w' S)(f:fD i l≠[]):D.HPost w w' b o B T a d c i l where
 ex:=by
  have n:=cy m;have p:=cy j;exact⟨d,c,by rw[n,p];exact zE q g,fun h=>absurd h f,fun k hk=>Ay hk⟩
 turn:=⟨g.os,g.tape,g.output,g.size,fun k hk _=>g.block k hk (by simp)⟩
theorem zkF {a:Ag}{d:Ad}{F:Cs}{m:Fh Aj}{h:Aj}{u:A Aj}(g:a.heap[b]?=V (Ae m T))(r:a.heap[d]?=V (Ae #[s,N] F))(p:T≠F)(t:Turn w a (fun k=>k=b))(E:w.heap.size<=d)(q:a.ownsRow B F 2 h n u)(C:∀k,h.ownBlock=V k->k<w.heap.size)(L v:Aj) :
  ((a.setCell ⟨b,o+3,S⟩ L).setCell ⟨d,1,S⟩ v).heap[b]?=V (Ae (m.setIfInBounds (o+3) L) T)/\((a.setCell ⟨b,o+3,S⟩ L).setCell ⟨d,1,S⟩ v).heap[d]?=V (Ae #[s,v] F)/\Turn w ((a.setCell ⟨b,o+3,S⟩ L).setCell ⟨d,1,S⟩ v) (fun k=>k=b)/\((a.setCell ⟨b,o+3,S⟩ L).setCell ⟨d,1,S⟩ v).ownsRow B F 2 h n u/\b≠d:=by
 have f:b≠d:=fun e=>by rw[e,r] at g;simp at g;exact p g.2.symm
 have j:=zF a b (o+3) L;have l:=zF (a.setCell ⟨b,o+3,S⟩ L) d 1 v;have x:=zH (i:=o+3) g L;have y:=zE r j (by simpa using fun e=>f e.symm);refine⟨zE x l (by simpa using f),zH (i:=1) y v,(t.step j (fun k hk=>Ay (Bc hk).symm)).step l (fun k hk=>Bf (by have:=Bc hk;omega)),?_,f⟩;have H:=zK q j (fun k hk c=>by
  have e:=Bc c;have z:=q;exact(zI g z p k hk) e.symm)
 exact zK H l (fun k hk c=>by
  have e:=Bc c;have:=C k hk
  omega)
theorem zk0 {l:A Ab}(a:Z l<=3000):Z (qF l).1<=3000/\(Z (qF l).2)<=3000:=by
 obtain⟨b,c⟩:=fS l 58;unfold qF
 constructor
 ·show(Z (Cj (Ca l [58]).1))<=3000
  unfold Cj;rw[Bv];omega
 ·show(Z (Lib.trimB (Ca l [58]).2.1 32))<=3000
  unfold Lib.trimB Lib.trimLeftB Lib.trimRightB;refine Bi (Xh _).length_le ?_;rw[Nv];refine Bi (Xh _).length_le ?_;rw[Nv];omega
abbrev Mc2 (a b):=Ae #[I (Aa a),I (Aa b)] 185
theorem ob (l:A Ab)(f:A Hd){fv:Aj}{L0:Ak}(hb:w.heap[b]?=V (Ae cs T))(hT:T≠185)(c2:cs[o+2]?=V fv)(c3:cs[o+3]?=V (O Ai L0))(hr:w.ownsRow B 185 2 fv (Z f) (zi (f.map D.sv)))(hl:Z l<=3000)(hn:Z f<=12)(hB:B<=w.heap.size) :
  Am prog 252 #[Al (V ⟨b,o,S⟩),I (Aa l)] w fun e w'=>e=Af (I (Aa (fD f l)))/\D.HPost w w' b o B T cs fv L0 f l:=by
 have aq:=hid (mC l 58 w);obtain⟨l1,l2⟩:=fS l 58;have av:Y (∀W,Am prog 313 #[I (Aa (Ca l [58]).1),Av true] W fun e w'=>e=Af (Av (R.word (Ca l [58]).1 true))/\w'=W):=fun W=>by
  have h:=oR (Aa (Ca l [58]).1) true W (by rw[Bz];unfold Bh;omega);rw[Be] at h;exact h
 have au:Y (∀W,Am prog 314 #[I (Aa (Ca l [58]).2.1),Av true] W fun e w'=>e=Af (Av (Ec yX (Ca l [58]).2.1))/\w'=W):=fun W=>by
  have h:=od (Aa (Ca l [58]).2.1) true W (by rw[Bz];unfold Bh;omega);rw[Be] at h;exact h
 have aj:Y (∀W,Am prog 88 #[I (Aa (Ca l [58]).1)] W fun e w'=>e=Af (I (Aa (qF l).1))/\W.grownBy w' S):=fun W=>by
  have h:=uV (Aa (Ca l [58]).1) W (by rw[Bz];omega);rw[Be] at h;exact h.mono fun e w' ⟨q1,q2⟩=>⟨q1,zt q2⟩
 have an:Y (∀W,Am prog 315 #[I (Aa (Ca l [58]).2.1)] W fun e w'=>e=Af (I (Aa (qF l).2))/\w'=W):=fun W=>og _ W (by omega)
 have ag:Y (xu l=((Ca l [58]).2.2 && (R.word (Ca l [58]).1 true && Ec yX (Ca l [58]).2.1))):=rfl;have d:Y (fD f l=if xu l then yN (qF l) f else jn):=rfl;have t:Y (∀w',w.grownBy w' S->fD f l≠[]->D.HPost w w' b o B T cs fv L0 f l):=fun w' g h=>HPost.grown hb c2 c3 g h
 have ak:Y (∀w' L',w'.heap[b]?=V (Ae (cs.setIfInBounds (o+3) (O Ai L')) T)->Turn w w' (fun k=>k=b)->fD f l≠[]->D.HPost w w' b o B T cs fv L0 f l):=fun w' L' h1 h2 h3=>
  ⟨⟨fv,L',by rw[cy (by rw[Cd,Aw (by omega)];exact c2)];exact h1,fun h=>absurd h h3,fun k hk=>Ay hk⟩,⟨h2.os,h2.tape,h2.output,h2.size,fun k hk hn=>h2.block k hk (fun e=>hn (Ay e))⟩⟩
 have bb:jn≠[]:=by decide
 have aW:Z (qF l).1<=3000/\(Z (qF l).2)<=3000:=zk0 hl;clear l1 l2;generalize fD f l=out at*;generalize xu l=rok at*;generalize R.word (Ca l [58]).1 true=bw at*;generalize Ec yX (Ca l [58]).2.1=bs at*;generalize Ca l [58]=c1 at*;obtain⟨nm,vl,ok⟩:=c1;simp only at aq av au aj an ag;go_in;go_wp2_with fail;refine aq.o.mono ?_;rintro e w1 ⟨rfl,g1⟩;have G1:=hid g1;clear aq g1;go_wp2_with fail;refine(av.o _).mono ?_;rintro e W2 ⟨rfl,r⟩;obtain rfl:=r.symm;clear r;go_wp2_with fail;refine(au.o _).mono ?_;rintro e W2 ⟨rfl,r⟩;obtain rfl:=r.symm;clear r
 by_cases af:rok=true
 ·obtain⟨rfl,rfl,rfl⟩:ok=true/\bw=true/\bs=true:=by
   have h:=ag.o;rw[af] at h
   simpa using h.symm
  rw[Az af] at d;clear af;go_wp2_with fail;refine(aj.o _).mono ?_;rintro e w2 ⟨rfl,g2⟩;have G2:=hid (zD G1.o g2);clear g2 G1;go_wp2_with fail;refine(an.o _).mono ?_;rintro e W2 ⟨rfl,r⟩;obtain rfl:=r.symm;clear r;have aZ:Z (qF l).1<=3000/\(Z (qF l).2)<=3000:=aW;have aN:Y (yN (qF l) f=if (Z f)=12 then j6 else if (qF l).1=uH then uj else if (qF l).1=x5 then yM (qF l) f else if (qF l).1=xw then qj (ya (qF l).2 && !xY (qF l).1 f) else []):=rfl;rw[aN.o] at d;obtain⟨⟨m,p⟩,ay⟩:∃x,x=qF l:=⟨_,rfl⟩;rw[<-ay] at d aZ ⊢;have aL:=hid ay.symm;clear ay aW;simp only at d aZ;have GX:=hid (zD G2.o (Ac w2 (Mc2 m p) S));have aa:=hid (zE hb GX.o);have F:=hid (zK hr GX.o (fun k hk c=>by cases c));have HX:Y ((w2.alloc (Mc2 m p)).heap[w2.heap.size]?=V (Mc2 m p)):=heap_alloc_new _ _;have be:=G2.o.size;have aE:Y (∀k,fv.ownBlock=V k->k<w.heap.size):=fun k hk=>(An hr k hk).2
  clear hb hr;go_upto_region 7 with fail;generalize w2.alloc (Mc2 m p)=wX at*;generalize w2.heap.size=xb at*;obtain⟨va,vk,rfl⟩:=zL F.o;have k2:wX.cell? ⟨b,o+2,S⟩=V (X va (Z f) vk):=(zB aa.o).trans c2;have aD:=hid (sV m (f.map D.sv) k2 (zo (by rw[Bv];exact F.o) (Ax _)) (by rw[Bv];omega));have k0:=cbi 0 HX.o;have k1:=cbi 1 HX.o;have bc:=(rT m (f.map D.sv)).trans (zj2 m f);go_wp2_with fail;refine aD.o.mono ?_;rintro e W2 ⟨rfl,r⟩;obtain rfl:=r.symm;clear aD r;generalize ud m (f.map D.sv)=fi at*;have q1:((Aa m).toList == [116,114,97,110,115,102,101,114,45,101,110,99,111,100,105,110,103])=decide (m=uH):=vC m uH;have q2:((Aa m).toList == [99,111,110,116,101,110,116,45,108,101,110,103,116,104])=decide (m=x5):=vC m x5;have q3:((Aa m).toList == [104,111,115,116])=decide (m=xw):=vC m xw;go_upto_region 8 with fail;clear bc
  by_cases aw:Z f=12
  ·have n:Y (out=j6):=by show _=_;rw[d.o,Az aw]
   have s:=hid (t.o wX GX.o (by rw[n.o];decide));have ba:(12:Ak)<=Z f:=by omega
   clear aw;go_wp2;go_ret;exact⟨by rw[n.o];rfl,s.o⟩
  ·have ba:¬(12:Ak)<=Z f:=by omega
   rw[Aw aw] at d
   go_upto_block 0 with fail
   go_cut [10,11] (fun pv _ wz=>pv=Al (V ⟨xb,0,S⟩)/\Y (out=[])/\∃L',Y (L'=if m=x5 then xL p else L0)/\Y (wz.heap[b]?=V (Ae (cs.setIfInBounds (o+3) (O Ai L')) T))/\Y (wz.heap[xb]?=V (Ae #[I (Aa m),I (Aa (yU (m,p)))] 185))/\Y (Turn w wz (fun k=>k=b))/\Y (wz.ownsRow B 185 2 (X va (Z f) vk) (Z f) (zi (f.map D.sv))))
   ·
    have aY:=hid (cy c3);have am:Y (Turn w wX (fun k=>k=b)):=⟨GX.o.os,GX.o.tape,GX.o.output,GX.o.size,fun k hk _=>GX.o.block k hk (by simp)⟩
    by_cases Q:m=uH
    ·have n:Y (out=uj):=by show _=_;rw[d.o,Az Q]
     have s:=hid (t.o wX GX.o (by rw[n.o];decide));rw[Cf Q] at q1;clear Q;go_wp2;go_ret;exact⟨by rw[n.o];rfl,s.o⟩
    ·rw[Aw Q] at d
     rw[Ce Q] at q1
     by_cases y:m=x5
     ·rw[Az y] at d
      rw[Cf y] at q2;have ab:Y (out=if xY m f || !zm p then jn else if 300<xL p then wl else []):=d.o;have aC:Y (∀W,Am prog 316 #[I (Aa p)] W fun e w'=>e=Af (Av (zm p))/\w'=W):=fun W=>by
       have h:=nh (Aa p) W (by rw[Bz];unfold Bh;omega);rw[Be] at h;exact h
      have aA:=hid y;clear Q q3 y;go_wp2_with fail;refine(aC.o _).mono ?_;rintro e W2 ⟨rfl,r⟩;obtain rfl:=r.symm;clear r
      by_cases v:(xY m f || !zm p)=true
      ·have n:Y (out=jn):=by show _=_;rw[ab.o,Az v]
       have s:=hid (t.o wX GX.o (by rw[n.o];decide));generalize xY m f=bh at*;generalize zm p=bn at*
       cases bh
       ·cases bn
        ·go_wp2
         go_ret;exact⟨by rw[n.o];rfl,s.o⟩
        ·exact absurd v (by decide)
       ·go_wp2
        go_ret;exact⟨by rw[n.o];rfl,s.o⟩
      ·obtain⟨aU,ax⟩:xY m f=false/\zm p=true:=by simpa using v
       obtain⟨_,n1,n2,n3⟩:=rJ ax;rw[Aw v] at ab;rw[aU,ax];clear v aU ax;have aG:Y (∀a c W,Am prog 132 #[.agg #[a,I (Aa p),c]] W fun e w'=>e=Af (O Ai (xL p))/\W.grownBy w' S):=fun a c W=>by
        have h:=ut a c (Aa p) W (by rw[Bz];omega);rw[Be] at h;exact h
       have aB:Y (∀W,Am prog 91 #[O Ai (xL p)] W fun e w'=>e=Af (I (Aa (R.decI (xL p))))/\w'=W):=fun W=>ko (xL p) W ⟨n1,n2⟩
       have ah:Y (yU (m,p)=R.decI (xL p)):=by show _=_;unfold yU;rw[aA.o,Aw (by show ¬x5=xw;decide),Az rfl]
       have HL:Y (xL p=if m=x5 then xL p else L0):=by show _=_;rw[Az aA.o]
       generalize xL p=nv at*;go_wp2_with fail;refine(aG.o _ _ _).mono ?_;rintro e w4 ⟨rfl,g4⟩;have C:=hid (zE aa.o g4);have H:=hid (zE HX.o g4);have ae:=hid (zK F.o g4 (fun k hk c=>by cases c));have aP:Y (Turn w w4 (fun k=>k=b)):=am.o.step g4 (fun k hk=>by cases hk);obtain⟨s1,s2,s3,s4,ao⟩:=zkF (o:=o) C.o H.o hT aP.o be ae.o aE.o (O Ai nv) (I (Aa (R.decI nv)));have S1:=hid s1;have S2:=hid s2;have S3:=hid s3;have S4:=hid s4;have m3:w4.cell? ⟨b,o+3,S⟩=V (O Ai L0):=(zB C.o).trans c3;have f3:w4.frozen? ⟨b,o+3,S⟩=false:=zG C.o;have e5:=zH (i:=o+3) C.o (O Ai nv);have e6:=zE H.o (zF w4 b (o+3) (O Ai nv)) (by simpa using fun e=>ao e.symm);have m5:=cbi 1 e6;have f5:=zm9 1 e6;have m6:(w4.setCell ⟨b,o+3,S⟩ (O Ai nv)).cell? ⟨b,o+3,S⟩=V (O Ai nv):=(zB e5).trans (by rw[Cd,Az rfl,Az (Gy.1 c3).1]);have m7:((w4.setCell ⟨b,o+3,S⟩ (O Ai nv)).setCell ⟨xb,1,S⟩ (I (Aa (R.decI nv)))).cell? ⟨b,o+3,S⟩=V (O Ai nv):=(zB s1).trans (by rw[Cd,Az rfl,Az (Gy.1 c3).1]);clear g4 C H ae s1 s2 s3 s4 e5 e6 aa F k0 k1 k2;go_wp2_with fail;refine(aB.o _).mono ?_;rintro e W2 ⟨rfl,r⟩;obtain rfl:=r.symm;clear r
       by_cases aS:300<nv
       ·have n:Y (out=wl):=by show _=_;rw[ab.o,Az aS]
        have s:=hid (ak.o _ nv S1.o S3.o (by rw[n.o];decide));go_wp2;go_ret;exact⟨by rw[n.o];rfl,s.o⟩
       ·have n:Y (out=[]):=by show _=_;rw[ab.o,Aw aS]
        go_wp2_with fail
        go_meet
        ·exact⟨rfl,n,nv,HL,S1,by rw[ah.o];exact S2,S3,S4⟩
     ·rw[Aw y] at d
      rw[Ce y] at q2
      by_cases N:m=xw
      ·rw[Az N] at d
       rw[Cf N] at q3;have aF:Y (∀W,Am prog 317 #[I (Aa p)] W fun e w'=>e=Af (Av (ya p))/\W.grownBy w' S):=fun W=>zbZ p W (by omega)
       have ar:Y (∀W,Am prog 88 #[I (Aa p)] W fun e w'=>e=Af (I (Aa (Cj p)))/\W.grownBy w' S):=fun W=>by
        have h:=uV (Aa p) W (by rw[Bz];omega);rw[Be] at h;exact h.mono fun e w' ⟨q1,q2⟩=>⟨q1,zt q2⟩
       have ah:Y (yU (m,p)=Cj p):=by show _=_;unfold yU;rw[Az N]
       have HL:Y (L0=if m=x5 then xL p else L0):=by show _=_;rw[Aw y]
       clear Q y N;go_wp2_with fail;refine(aF.o _).mono ?_;rintro e w4 ⟨rfl,g4⟩;have G4:=hid (zD GX.o g4);have C:=hid (zE aa.o g4);have H:=hid (zE HX.o g4);have ae:=hid (zK F.o g4 (fun k hk c=>by cases c));have j1:=cbi 1 H.o;clear g4 aa F k0 k1 k2 GX
       by_cases hg:(ya p && !xY m f)=true
       ·obtain⟨h1,h2⟩:ya p=true/\xY m f=false:=by simpa using hg
        have n:Y (out=[]):=by show _=_;rw[d.o,hg];rfl
        rw[h1,h2];clear hg h1 h2;go_wp2_with fail;refine(ar.o _).mono ?_;rintro e w5 ⟨rfl,g5⟩;have G5:=hid (zD G4.o g5);have ap:=hid (zE C.o g5);have ai:=hid (zE H.o g5);have aK:=hid (zK ae.o g5 (fun k hk c=>by cases c));have aQ:Y (Turn w w5 (fun k=>k=b)):=⟨G5.o.os,G5.o.tape,G5.o.output,G5.o.size,fun k hk _=>G5.o.block k hk (by simp)⟩;have m5:=cbi 1 ai.o;have f5:=zm9 1 ai.o;have gs:=zF w5 xb 1 (I (Aa (Cj p)));have ao:b≠xb:=fun e=>by have h9:=ap.o;rw[e,ai.o] at h9;simp at h9;exact hT h9.2.symm
        have S1:=hid (zE ap.o gs (by simpa using ao));have S2:Y ((w5.setCell ⟨xb,1,S⟩ (I (Aa (Cj p)))).heap[xb]?=V (Ae #[I (Aa m),I (Aa (Cj p))] 185)):=zH (i:=1) ai.o _;have S3:=hid (aQ.o.step gs (fun k hk=>Bf (by have:=Bc hk;omega)));have S4:=hid (zK aK.o gs (fun k hk c=>by have e:=Bc c;have:=aE.o k hk;omega));clear g5 G5 ap ai aK gs C H ae G4 j1 ao;go_wp2_with fail
        go_meet
        ·exact⟨rfl,n,L0,HL,by rw[aY.o];exact S1,by rw[ah.o];exact S2,S3,S4⟩
       ·have n:Y (out=jn):=by
         show _=_;rw[d.o,show(ya p && !xY m f)=false by simpa using hg]
         rfl
        have s:=hid (t.o w4 G4.o (by rw[n.o];decide));clear C H ae;generalize xY m f=bh at*;generalize ya p=bn at*
        cases bh
        ·cases bn
         ·go_wp2
          go_ret;exact⟨by rw[n.o];rfl,s.o⟩
         ·exact absurd rfl hg
        ·go_wp2
         go_ret;exact⟨by rw[n.o];rfl,s.o⟩
      ·rw[Aw N] at d
       rw[Ce N] at q3;have ah:Y (yU (m,p)=p):=by show _=_;unfold yU;rw[Aw N,Aw y]
       have HL:Y (L0=if m=x5 then xL p else L0):=by show _=_;rw[Aw y]
       clear Q N y;go_wp2_with fail
       go_meet
       ·exact⟨rfl,d,L0,HL,by rw[aY.o];exact aa,by rw[ah.o];exact HX,am,F⟩
   ·
    obtain⟨rfl,HO,L',HL,HB,HX,ad,a7⟩:=hcut;clear aa F q1 q2 q3 k0 k1 k2 GX G2;generalize wc=w3 at*;have aO:Y (zi (f.map D.sv)++[I (Aa m),I (Aa (yU (m,p)))]=zi ((f++[(m,p)]).map D.sv)):=by
     show _=_;rw[Ef];exact(yW (f.map D.sv) (D.sv (m,p))).symm
    generalize yU (m,p)=sv at*;obtain⟨i0,hi,bf,bg,bi⟩:=Ej aM;have bj:=ad.o.size;have gX:=hid (zD (Ac w3 (Mc2 m sv) S) (zV (w3.alloc (Mc2 m sv))));have aI:=J (zK a7.o gX.o (fun k hk c=>by cases c));have a5:Y (∀j u,([I (Aa m),I (Aa sv)]:A Aj)[j]?=V u->(w3.alloc (Mc2 m sv)).drew.cell? ((⟨w3.heap.size,0,S⟩:Eu).add j)=V u):=zZ w3 #[_,_] _ _ rfl;have a0:Y (∀u∈([I (Aa m),I (Aa sv)]:A Aj),u.oneCell'=true):=fun u hu=>by simp at hu;rcases hu with rfl | rfl <;> rfl
    have a4:Y (Z f+1<=Bh):=by show _<=_;unfold Bh;omega
    have a9:Y ((Z f+1)*32<=140737488355328):=by show _<=_;omega
    have aR:Y ((w3.alloc (Mc2 m sv)).drew.heap.size=w3.heap.size+1):=by show _=_;simp
    have a1:Y (B<=(w3.alloc (Mc2 m sv)).drew.heap.size):=by show _<=_;rw[aR.o];omega
    have al:=hid (zE HB.o gX.o);have az:=hid (zI al.o aI.o hT);have cc:(cs.setIfInBounds (o+3) (O Ai L'))[o+2]?=V (X va (Z f) vk):=by rw[Cd,Aw (by omega)];exact c2
    have k2:w3.cell? ⟨b,o+2,S⟩=V (X va (Z f) vk):=(zB HB.o).trans cc;have b0:=cbi 0 HX.o;have b1:=cbi 1 HX.o;have kX:(w3.alloc (Mc2 m sv)).drew.cell? ⟨b,o+2,S⟩=V (X va (Z f) vk):=(zB al.o).trans cc;have a2:Y (∀g9 z w9,w9.ownsRow B 185 2 (X (V ⟨g9,0,S⟩) (Z f+1) z) (Z f+1) (zi (f.map D.sv)++[I (Aa m),I (Aa sv)])->(w3.alloc (Mc2 m sv)).drew.grownBy w9 (X va (Z f) vk).ownBlock->((X va (Z f) vk).ownBlock=V g9\/g9=w3.heap.size+1)->D.HPost w (w9.setCell ⟨b,o+2,S⟩ (X (V ⟨g9,0,S⟩) (Z f+1) z)) b o B T cs (X va (Z f) vk) L0 f l):=fun g9 z w9 ho hg hat=>by
     have aV:=zw al.o hg az.o;have gs:=zF w9 b (o+2) (X (V ⟨g9,0,S⟩) (Z f+1) z);have tW:Turn w w3 (fun k=>k=b\/(X va (Z f) vk).ownBlock=V k):=⟨ad.o.os,ad.o.tape,ad.o.output,ad.o.size,fun k hk hn=>ad.o.block k hk (fun e=>hn (Ay e))⟩;refine⟨⟨(X (V ⟨g9,0,S⟩) (Z f+1) z),L',zH (i:=o+2) aV _,fun _=>⟨?_,by rw[aL.o];exact HL.o⟩,fun k hk=>?_⟩,((tW.step gX.o (fun k hk=>by cases hk)).step hg (fun k hk=>Ay (Bf hk))).step gs (fun k hk=>Ay (Ay (Bc hk).symm))⟩
     ·have h1:=zJ ho gs (zI aV ho hT)
      rw[aO.o] at h1;rw[aL.o,Ah];exact h1
     ·have e9:g9=k:=Bc hk
      subst e9;rcases hat with q | q
      ·exact Ay q
      ·exact Bf (by omega)
    clear ad HB;go_upto_region 26 with fail
    go_region_law (refine step_append_lies _ rfl (.tmp 100) (.tmp 102) 124 rfl B 185 i0 _ 2 32 underlying124 hi bf bg bi rfl (by decide) _ _ _ (by simp[Im]) aI.o ⟨w3.heap.size,0,S⟩ 1 1 [I (Aa m),I (Aa sv)] (by simp[Im]) rfl a5.o a0.o (by decide) a4.o a9.o a1.o (w3.heap.size+1) aR.o ?_;intro g9 z w9 aX E aT bd;have a6:=hid aX;have a3:=hid E;have a8:=hid aT;have aJ:=hid (zw al.o E az.o);have q9:w9.cell? ⟨b,o+2,S⟩=V (X va (Z f) vk):=(zB aJ.o).trans cc;have f9:w9.frozen? ⟨b,o+2,S⟩=false:=zG aJ.o;clear aX E aT bd)
    all_goals
     go_wp2;go_ret;exact⟨by rw[HO.o];rfl,a2.o _ _ _ a6.o a3.o a8.o⟩
 ·have n:Y (out=jn):=by show _=_;rw[d.o,Aw af]
  have s:=hid (t.o w1 G1.o (by rw[n.o];exact bb));have aH:Y (rok=false):=by show _=_;simpa using af
  rw[aH.o] at ag;clear af
  cases ok
  ·go_wp2
   go_ret;exact⟨by rw[n.o];rfl,s.o⟩
  cases bw
  ·go_wp2
   go_ret;exact⟨by rw[n.o];rfl,s.o⟩
  cases bs
  ·go_wp2
   go_ret;exact⟨by rw[n.o];rfl,s.o⟩
  exact absurd ag.o (by decide)
def D.ln (ln:A Ab):A Ab:=if (qQ ln 13).2 then (qQ ln 13).1 else []
theorem zcK (t:A Ab)(c:Ab):qQ (t++[c]) 13=if c=13 then (t,true) else (t++[c],false):=by
 unfold qQ;have e:Ov (t++[c]) [13]=decide (c=13):=by
  unfold Ov;rw[Eb];simp;exact⟨fun h=>h.symm,fun h=>h.symm⟩
 rw[e]
 by_cases h:c=13
 ·rw[Az h,Az (by simpa using h)]
  simp
 ·rw[Aw h,Aw (by simpa using h)]
theorem ziN (p a:A Ab)(n:∀(i:Ad) (u:Ab),(p++(a++[10]))[i]?=V u->w.cell? ⟨g,i,S⟩=V (O Bp u.toNat))(hp:p=[]\/∃q,p=q++[10])(z:∀c∈a,c≠10)(hl:Z p+Z a+1<=100000)(v:Z p+Z a+1<=f):Am prog 250 #[X (V ⟨g,0,S⟩) (Z p+Z a+1) f] w fun e w'=>e=Af (Cm #[I (Aa (D.ln a)),Av (qQ a 13).2])/\w'=w:=by
 have b:Y (∀i (h:i<Z a),w.cell? ⟨g,Z p+i,S⟩=V (O Bp a[i].toNat)/\a[i]≠10):=fun i h=>by
  refine⟨n (Z p+i) a[i] ?_,z _ (Cr h)⟩;rw[Cl (by omega),Ow,Cx h,Bd h]
 have C:Y (∀q,p=q++[10]->w.cell? ⟨g,Z q,S⟩=V (O Bp 10)):=fun q e=>by
  subst e;refine n (Z q) 10 ?_;rw[Bl,Cl (Aq _),Gp]
  rfl
 have o:Y (D.ln a=if (qQ a 13).2 then (qQ a 13).1 else []):=rfl;clear n z;generalize D.ln a=res at*;go_in
 go_upto_block 0 with fail
 have aa:(((Z p+Z a+1:Ad):Ak)-1)=((Z p+Z a:Ad):Ak):=by omega
 go_cut [5] (fun fv wz=>fv=O Ai (Z p:Ad)/\Y (wz=w))
 ·
  go_wp2_with fail
  go_loopw [5] (fun fv wr=>∃j:Ad,j<=Z a/\fv=O Ai (Z p+j:Ad)/\wr=w) (fun fv _=>(intOf fv).toNat)
  ·exact⟨Z a,Aq _,by first|rfl|(congr 1;omega),rfl⟩
  ·
   obtain⟨j,hj,rfl,rfl⟩:=hrel
   cases j with
   |zero=>
    rcases hp with rfl|⟨q,rfl⟩
    ·have h0:(Z ([]:A Ab)+0:Ad)=0:=rfl
     go_wp2_with fail
     go_meet
     ·exact⟨rfl,by first|rfl|trivial⟩
    ·have cq:=C.o q rfl
     have B:(Z (q++[10])+0:Ad)=Z q+1:=by simp
     rw[B];have aj:(0:Ak)<((Z q+1:Ad):Ak):=by omega
     have ai:Z (q++[10])=Z q+1:=by simp
     have ak:(Z q:Ak)<((Z q+1:Ad)+Z a+1:Ad):=by omega
     clear B;go_wp2_with fail
     go_meet
     ·exact⟨by first|rfl|(congr 1;simp),by first|rfl|trivial⟩
   |succ i=>
    obtain⟨cc,l⟩:=b.o i (by omega);have H:¬((a[i].toNat:Ad):Ak)=10:=fun e=>l (Hb.1 (by show a[i].toNat=10;omega))
    generalize a[i]=c at*;obtain⟨m,hm⟩:∃m,m=Z p+i:=⟨_,rfl⟩;rw[<-hm] at cc;rw[show (Z p)+(i+1)=m+1 by omega];have ag:(0:Ak)<((m+1:Ad):Ak):=by omega
    have ah:(m:Ak)<((Z p+Z a+1:Ad):Ak):=by omega
    have HM:=hid hm;have af:m+1<=100000:=by omega
    clear hm l;go_wp2_with fail
    go_roundw
    ·exact⟨i,by omega,by rw[<-HM.o],by first|rfl|trivial⟩
    ·simp[intOf]
 ·
  obtain⟨rfl,E⟩:=hcut;have d:Y (∀i (h:i<Z a),wc.cell? ⟨g,Z p+i,S⟩=V (O Bp a[i].toNat)):=by
   rw[E.o];exact fun i h=>(b.o i h).1
  clear hp;rcases gT a with rfl|⟨t,c,rfl⟩
  ·have s:=J (o.o)
   have e0:Z ([]:A Ab)=0:=rfl;go_wp2
   go_ret2
   exact⟨by rw[s.o];rfl,E.o⟩
  ·have x:∀i (h:i<Z t),wc.cell? ⟨g,Z p+i,S⟩=V (O Bp t[i].toNat):=fun i h=>by
    have F:=d.o i (by simp;omega);rw[List.getElem_append_left h] at F;exact F
   have N:wc.cell? ⟨g,Z p+Z t,S⟩=V (O Bp c.toNat):=by
    have F:=d.o (Z t) (by simp)
    simpa using F
   have y:Z (t++[c])=Z t+1:=by simp
   have r:=hid (zcK t c);have Q:g<wc.heap.size:=by
    have:=Mk wc _ N;exact this
   have cv:(convert 32 9 (X (V ⟨g,Z p,S⟩) (Z t) (f-Z p))).run prog wc = .ok (I (Aa t)) wc:=j8 (Bf ⟨g,Z p,f-Z p,rfl,by omega,Q,fun j u hu=>by
    obtain⟨hj,rfl⟩:=Bo.1 hu;exact x j hj⟩)
   rw[y] at hl v aa ⊢;have j1:¬((Z p:Ad):Ak)+((Z t+1:Ad):Ak)=(Z p:Ad):=by omega
   clear x
   by_cases k:c=13
   ·subst k
    rw[Az rfl] at r;have s:Y (res=t):=by show _=_;rw[o.o,r.o];rfl
    go_wp2
    go_ret2
    exact⟨by rw[s.o,r.o];rfl,E.o⟩
   ·rw[Aw k] at r
    have s:Y (res=[]):=by show _=_;rw[o.o,r.o];rfl
    have ab:¬((c.toNat:Ad):Ak)=13:=fun e=>k (Hb.1 (by show c.toNat=13;omega))
    have ad:=Ch.2 (by omega);have ae:(((c.toNat:Ad):Ak) != 13)=true:=by simp;omega
    clear k cv;go_wp2
    go_ret2
    exact⟨by rw[s.o,r.o];rfl,E.o⟩
theorem zeF (l:A Ab)(c:Ab):Es l [c] = -1\/∃i:Ad,Es l [c]=i:=by
 induction l with
 |nil=>exact Ay rfl
 |cons b l ih=>
  unfold Es
  by_cases h:List.isPrefixOf [c] (b::l)=true
  ·rw[Az h];exact Bf ⟨0,rfl⟩
  ·rw[Aw h]
   rcases ih with e|⟨i,e⟩
   ·rw[e];exact Ay rfl
   ·rw[e,Aw (by simp)]
    exact Bf ⟨i+1,by omega⟩
theorem ky (l:A Ab):yI l=if (Ca l [32]).2.2 then (Ca l [32]).1::yI (Ca l [32]).2.1 else [l]:=by
 have e:Ca l [32]=if 0<=Es l [32] then (l.take (Es l [32]).toNat,l.drop ((Es l [32]).toNat+1),true) else (l,[],false):=rfl;unfold yI;rcases zeF l 32 with h|⟨i,h⟩
 ·have a:=Lib.count_miss h
  rw[e,h,a]
  rfl
 ·have a:=Lib.count_hit (sub:=[32]) (by decide) h
  rw[e,h,Az (Sj i),a];show Lib.splitK [32] 0 (1+Lib.count (l.drop (i+1)) [32]) l=_;rw[Nat.add_comm,Lib.splitK,h,Aw (by simp)]
  rfl
theorem ru {v:A Ab}(h:(Ca v [32]).2.2=false):yI v=[v]:=by rw[ky,h];rfl
theorem zgI:yI xK=[xK]:=ru (by decide)
theorem zeO (v:A Ab)(h:(Ca v [32]).2.2=true):∃a b r,yI v=a::b::r:=by
 rw[ky,h,Az rfl,ky]
 split
 ·exact⟨_,_,_,rfl⟩
 ·exact⟨_,_,_,rfl⟩
theorem pre47 (t:A Ab):Mx t [47]=decide (t.head?=V 47):=by
 unfold Mx
 cases t with
 |nil=>rfl
 |cons c t=>
  rw[Eb];simp;exact⟨fun h=>h.symm,fun h=>h.symm⟩
theorem zlQ (m:A Ab):decide (m≠[])=decide (1<=Z m):=by grind
abbrev Mc5 (a):=Ca (Ca a [32]).2.1 [32]
theorem fU (l:A Ab):(yl l=true->yI l=[D.p1 l,D.p2 l,D.p3 l])/\xo l=yl l:=by
 have b:D.p1 l=(Ca l [32]).1:=rfl;have c:D.p2 l=(Mc5 l).1:=rfl;have d:D.p3 l=(Mc5 l).2.1:=rfl;have f:yl l=(((Ca l [32]).2.2 && ((Mc5 l).2.2 && (Ec yG (D.p2 l) && (decide (D.p3 l=xK) && (decide (1<=Z (D.p1 l)) && (decide (Z (D.p1 l)<=8) && decide ((D.p2 l).head?=V 47))))))) && Ec xS (D.p1 l)):=rfl;have g:=ky l;have a:=ky (Ca l [32]).2.1
 grind[D.p1,D.p2,D.p3,yl,yG,xK,xS,ky,xo,xr,yk,zeO,zgI,yI,ru,pre47,zlQ]
theorem zgW (h:Rq.Head)(l:A Ab):yH h l=if yl l then { h with method:=D.p1 l,target:=D.p2 l } else h:=by grind[fU,yl,yH,xo,xr,yk,xK,Rq.Head,D.p1,D.p2]
structure D.QAt (w:Ag) (o B:Ad) (cs:Fh Aj) (h:Rq.Head):Prop where
 m:cs[o]?=V (I (Aa h.method))
 t:cs[o+1]?=V (I (Aa h.target))
 f:∃fv,cs[o+2]?=V fv/\w.ownsRow B 185 2 fv (Z h.headers) (zi (h.headers.map D.sv))
 l:cs[o+3]?=V (O Ai (yi h))
 a4:cs[o+4]?=V (I ⟨#[]⟩)
 a5:cs[o+5]?=V (I ⟨#[]⟩)
structure D.LPost (w w':Ag) (b o B:Ad) (T:Cs) (cs:Fh Aj) (h':Rq.Head) (out:A Ab):Prop where
 ex:∃cs',w'.heap[b]?=V (Ae cs' T)/\cs'.size=cs.size/\(∀j,j<o\/o+6<=j->cs'[j]?=cs[j]?)/\(out=[]->D.QAt w' o B cs' h')/\∀fv' k,cs'[o+2]?=V fv'->fv'.ownBlock=V k->(∃fv,cs[o+2]?=V fv/\fv.ownBlock=V k)\/w.heap.size<=k
 turn:Turn w w' (fun k=>k=b\/∃fv,cs[o+2]?=V fv/\fv.ownBlock=V k)
theorem eS (l:A Ab):((Aa l).toList == [])=decide (l=[]):=vC l []
theorem zgZ {a:A Hd}{x:Hd}(h:yN x a=[]):xL (xZ x5 (a++[x]))=if x.1=x5 then xL x.2 else xL (xZ x5 a):=by
 unfold xZ xt;rw[Nj]
 by_cases b:x.1=x5
 ·rw[Az b]
  unfold yN at h;have i:¬x.1=uH:=by rw[b];decide
  by_cases c:Z a=12
  ·rw[Az c] at h;exact absurd h (by decide)
  ·rw[Aw c,Aw i,Az b] at h
   unfold yM at h
   by_cases f:(xY x.1 a || !zm x.2)=true
   ·rw[Az f] at h;exact absurd h (by decide)
   ·have g:xY x.1 a=false:=by
     cases e:xY x.1 a with
     |false=>rfl
     |true=>rw[e] at f;exact absurd rfl f
    have d:a.filter (fun h=>decide (h.1=x5))=[]:=by
     rw[b] at g;unfold xY xt at g;have:=of_decide_eq_false g;exact Ep.1 (by omega)
    have j:[x].filter (fun h=>decide (h.1=x5))=[x]:=by
     rw[Mp,Az (by simpa using b)];rfl
    rw[d,j]
    rfl
 ·rw[Aw b]
  have j:[x].filter (fun h=>decide (h.1=x5))=[]:=by
   rw[Mp,Aw (by simpa using b)];rfl
  rw[j,Cv]
variable {h:Rq.Head}
theorem LPost.grown {d:Rq.Head}{out:A Ab}(p:w.heap[b]?=V (Ae a T))(q:D.QAt w o B a h)(g:w.grownBy w' S)(e:out=[]->d=h):D.LPost w w' b o B T a d out where
 ex:=⟨a,zE p g,rfl,fun _ _=>rfl,fun ho=>by
  rw[e ho];obtain⟨n,i,j⟩:=q.f;exact⟨q.m,q.t,⟨n,i,zK j g (fun k hk c=>by cases c)⟩,q.l,q.a4,q.a5⟩,fun fv' k h1 h2=>Ay ⟨fv',h1,h2⟩⟩
 turn:=⟨g.os,g.tape,g.output,g.size,fun k hk _=>g.block k hk (by simp)⟩
theorem LPost.first {s:A Ab}(y:w.heap[b]?=V (Ae d T))(x:T≠185)(q:D.QAt w o B d h)(E:w'.heap[b]?=V (Ae (jt d o s) T))(g:w.grownBy w' (V b)):D.LPost w w' b o B T d (yH h s) (qj (xo s)):=by
 obtain⟨v,u,r⟩:=q.f;have p:=zK r g (fun k hk c=>zI y r x k hk (Bc c).symm);have z:=(Gy.1 q.m).1;have C:=(Gy.1 q.t).1;have a:∀j,j≠o->j≠o+1->(jt d o s)[j]?=d[j]?:=fun j h1 h2=>by
  unfold jt
  split
  ·rw[Cd,Aw (by omega),Cd,Aw (by omega)]
  ·rfl
 refine⟨⟨_,E,?_,fun j hj=>a j (by omega) (by omega),fun ho=>?_,fun fv' k h1 h2=>?_⟩,⟨g.os,g.tape,g.output,g.size,fun k hk hn=>g.block k hk (fun e=>hn (Ay (Bc e)))⟩⟩
 ·unfold jt;split <;> simp
 ·have n:yl s=true:=by
   rw[(fU s).2] at ho
   cases e:yl s with
   |true=>rfl
   |false=>rw[e] at ho;exact absurd ho (by decide)
  rw[zgW,Az n];have i:jt d o s=(d.setIfInBounds o (I (Aa (D.p1 s)))).setIfInBounds (o+1) (I (Aa (D.p2 s))):=by unfold jt;rw[Az n]
  refine⟨?_,?_,⟨v,(a _ (by omega) (by omega)).trans u,p⟩,(a _ (by omega) (by omega)).trans q.l,(a _ (by omega) (by omega)).trans q.a4,(a _ (by omega) (by omega)).trans q.a5⟩
  ·rw[i,Cd,Aw (by omega),Cd,Az rfl,Az z]
  ·rw[i,Cd,Az rfl,Az (by rw[Ff];exact C)]
 ·rw[a _ (by omega) (by omega)] at h1
  exact Ay ⟨fv',h1,h2⟩
theorem LPost.header {s:A Ab}(q:D.QAt w o B d h)(v:d[o+2]?=V u)(f:D.HPost w w' b o B T d u (yi h) h.headers s):D.LPost w w' b o B T d (jc h s) (xq h s):=by
 obtain⟨c,r,z,C,E⟩:=f.ex;have p:fD h.headers s=xq h s:=rfl;have N:=(Gy.1 v).1;have Q:=(Gy.1 q.l).1;have a:∀j,j≠o+2->j≠o+3->((d.setIfInBounds (o+3) (O Ai r)).setIfInBounds (o+2) c)[j]?=d[j]?:=fun j e1 e2=>by
  rw[Cd,Aw (by omega),Cd,Aw (by omega)]
 have i:((d.setIfInBounds (o+3) (O Ai r)).setIfInBounds (o+2) c)[o+2]?=V c:=by
  rw[Cd,Az rfl,Az (by rw[Ff];exact N)]
 have x:((d.setIfInBounds (o+3) (O Ai r)).setIfInBounds (o+2) c)[o+3]?=V (O Ai r):=by
  rw[Cd,Aw (by omega),Cd,Az rfl,Az Q]
 refine⟨⟨_,z,by simp,fun j hj=>a j (by omega) (by omega),fun ho=>?_,fun fv9 k e1 e2=>?_⟩,⟨f.turn.os,f.turn.tape,f.turn.output,f.turn.size,fun k hk hn=>f.turn.block k hk (fun e=>hn (by rcases e with e|e;exact Ay e;exact Bf ⟨u,v,e⟩))⟩⟩
 ·obtain⟨F,H⟩:=C (p.trans ho)
  have n:xu s=true:=by
   unfold xq at ho
   cases e:xu s with
   |true=>rfl
   |false=>rw[e] at ho;exact absurd ho (by show ¬jn=[];decide)
  have y:yN (qF s) h.headers=[]:=by
   unfold xq at ho;rw[Az n] at ho;exact ho
  have g:jc h s={ h with headers:=h.headers++[qF s] }:=by unfold jc;rw[Az n]
  rw[g];refine⟨(a _ (by omega) (by omega)).trans q.m,(a _ (by omega) (by omega)).trans q.t,⟨c,i,F⟩,?_,(a _ (by omega) (by omega)).trans q.a4,(a _ (by omega) (by omega)).trans q.a5⟩;rw[x,H];show _=V (O Ai (xL (xZ x5 (h.headers++[qF s]))));rw[zgZ y]
  rfl
 ·rw[i] at e1
  cases e1
  rcases E k e2 with e|e
  ·exact Ay ⟨u,v,e⟩
  ·exact Bf e
def za9 (h:Rq.Head)(ln:A Ab):Bool:=(yT h ln).2.1 && decide ((yT h ln).2.2=[])
theorem zfY {ab:Ad}(p d:A Ab)(N:w.heap[b]?=V (Ae cs T))(hT:T≠185)(q:D.QAt w (o+3) B cs h)(hB:B<=w.heap.size)(ae:cs[o+1]?=V (X (V ⟨g,0,S⟩) (Z p+Z d+1) ab))(af:∀(i:Ad) (u:Ab),(p++(d++[10]))[i]?=V u->w.cell? ⟨g,i,S⟩=V (O Bp u.toNat))(hp:p=[]\/∃q,p=q++[10])(ag:∀c∈d,c≠10)(hl:Z p+Z d+1<=3000)(aj:Z p+Z d+1<=ab)(hn:Z h.headers<=12):Am prog 199 #[Al (V ⟨b,o,S⟩)] w fun e w'=>e=Af (Cm #[I (Aa (yT h d).2.2),Av (za9 h d)])/\D.LPost w w' b (o+3) B T cs (yT h d).1 (yT h d).2.2:=by
 have aa:=hid (ziN p d af hp ag (by omega) aj);have F:Y (D.ln d=if (qQ d 13).2 then (qQ d 13).1 else []):=rfl;have al:=pI d 13;have j:Y (yT h d=if (qQ d 13).2 then if h.method=[] then (yH h (qQ d 13).1,false,qj (xo (qQ d 13).1)) else if (qQ d 13).1=[] then (h,true,qj (xY xw h.headers)) else (jc h (qQ d 13).1,false,xq h (qQ d 13).1) else (h,false,jn)):=rfl;have k:Y (za9 h d=((yT h d).2.1 && decide ((yT h d).2.2=[]))):=rfl;obtain⟨fv,f1,f2⟩:=q.f;have y:Y (∀s:A Ab,Z s<=3000->Am prog 251 #[Al (V ⟨b,o+3,S⟩),I (Aa s)] w fun e w'=>e=Af (I (Aa (qj (xo s))))/\D.LPost w w' b (o+3) B T cs (yH h s) (qj (xo s))):=fun s hs=>by
  refine(zfX s N (Gy.1 q.t).1 hs).mono fun e w' ⟨h1,h2,h3⟩=>?_
  rw[<-(fU s).2] at h1;exact⟨h1,LPost.first N hT q h2 h3⟩
 have z:Y (∀s:A Ab,Z s<=3000->Am prog 252 #[Al (V ⟨b,o+3,S⟩),I (Aa s)] w fun e w'=>e=Af (I (Aa (xq h s)))/\D.LPost w w' b (o+3) B T cs (jc h s) (xq h s)):=fun s hs=>
  (ob s h.headers N hT f1 q.l f2 hs hn hB).mono fun e w' ⟨h1,h2⟩=>⟨h1,LPost.header q f1 h2⟩
 have k5:w.cell? ⟨b,o+3+2,S⟩=V fv:=(zB N).trans f1;have x:=hid (sV xw (h.headers.map D.sv) (b:=b) (o:=o+3) k5 (zo (by rw[Bv];exact f2) (Ax _)) (by rw[Bv];omega));have H:=(rT xw (h.headers.map D.sv)).trans (zj2 xw h.headers);have v:Y (∀h' out,(out=[]->h'=h)->D.LPost w w b (o+3) B T cs h' out):=fun h' out e=>LPost.grown N q (zP _ _) e
 have k1:w.cell? ⟨b,o+1,S⟩=V (X (V ⟨g,0,S⟩) (Z p+Z d+1) ab):=(zB N).trans ae;have k3:w.cell? ⟨b,o+3,S⟩=V (I (Aa h.method)):=(zB N).trans q.m;have ah:=eS h.method;clear N q f1 f2 k5 af hp ag ae hB hn;generalize yT h d=lk at*;generalize za9 h d=en at*;generalize D.ln d=ls at*;generalize qQ d 13=ue at*;obtain⟨Q,ub⟩:=ue;simp only at F j aa al;generalize ud xw (h.headers.map D.sv)=fi at*;generalize xY xw h.headers=bh at*;go_in;go_wp2_with fail;refine aa.o.mono ?_;rintro e W2 ⟨rfl,C⟩;obtain rfl:=C.symm;clear aa C
 cases ub
 ·have a:=J (j.o)
  have n:Y (en=false):=by show _=_;rw[k.o,a.o];rfl
  have r:=hid (v.o h jn (fun _=>rfl));clear x;go_wp2
  go_ret2
  exact⟨by rw[a.o,n.o];rfl,by rw[a.o];exact r.o⟩
 ·have ad:=J (F.o)
  rw[Az rfl] at j;rw[ad.o]
  by_cases hm:h.method=[]
  ·have a:Y (lk=(yH h Q,false,qj (xo Q))):=by show _=_;rw[j.o,Az hm]
   have n:Y (en=false):=by show _=_;rw[k.o,a.o];rfl
   have HC:=hid (y.o Q (by omega));rw[Cf hm] at ah;clear x hm;go_wp2_with fail;refine HC.o.mono ?_;rintro e w3 ⟨rfl,E⟩;have r:=hid E;clear HC E;go_wp2
   go_ret2
   exact⟨by rw[a.o,n.o];rfl,by rw[a.o];exact r.o⟩
  ·rw[Ce hm] at ah
   rw[Aw hm] at j;have ai:=eS Q
   by_cases hu:Q=[]
   ·have a:Y (lk=(h,true,qj bh)):=by show _=_;rw[j.o,Az hu]
    rw[Cf hu] at ai;clear hm hu;go_wp2_with fail;refine x.o.mono ?_;rintro e W2 ⟨rfl,C⟩;obtain rfl:=C.symm;clear x C
    cases bh
    ·have ak:fi<0:=by have:=of_decide_eq_false H;omega
     have n:Y (en=false):=by show _=_;rw[k.o,a.o];rfl
     have r:=hid (v.o h (qj false) (fun _=>rfl));clear H;go_wp2
     go_ret2
     exact⟨by rw[a.o,n.o];rfl,by rw[a.o];exact r.o⟩
    ·have ak:¬fi<0:=by have:=Iz H;omega
     have n:Y (en=true):=by show _=_;rw[k.o,a.o];rfl
     have r:=hid (v.o h (qj true) (fun _=>rfl));clear H;go_wp2
     go_ret2
     exact⟨by rw[a.o,n.o];rfl,by rw[a.o];exact r.o⟩
   ·have a:Y (lk=(jc h Q,false,xq h Q)):=by show _=_;rw[j.o,Aw hu]
    have n:Y (en=false):=by show _=_;rw[k.o,a.o];rfl
    have HC:=hid (z.o Q (by omega));rw[Ce hu] at ai;clear x hm hu;go_wp2_with fail;refine HC.o.mono ?_;rintro e w3 ⟨rfl,E⟩;have r:=hid E;clear HC E;go_wp2
    go_ret2
    exact⟨by rw[a.o,n.o];rfl,by rw[a.o];exact r.o⟩
theorem zcW:(prog.info? 5).map (fun i=>(i.zero,i.size,i.bytes))=V (V (O Bp 0),1,1):=by kernel_rfl
theorem zaU (l:A Ab)(x:Ab):Ba (l++[x])=Ba l++[O Bp x.toNat]:=by unfold Ba;rw[Ef];rfl
theorem qM (h:i≠j)(q:a[j]?=V v):(a.setIfInBounds i u)[j]?=V v:=by simp_all
theorem jd (u:Aj)(h:i<a.size:=by omega):(a.setIfInBounds i u)[i]?=V u:=by simp_all
def D.Fl (w:Ag)(B:Ad)(cs:Fh Aj)(o:Ad):Prop:=(∃s,cs[o+3]?=V (I s))/\(∃s,cs[o+4]?=V (I s))/\∃fv n l,cs[o+5]?=V fv/\w.ownsRow B 185 2 fv n l
def D.At (w:Ag)(B:Ad)(cs:Fh Aj)(o:Ad):Br Cn->Prop
 |none=>cs[o]?=V (Av true)
 |V (.hd h)=>cs[o]?=V (Av false)/\cs[o+2]?=V (O Ai 0)/\D.QAt w (o+3) B cs h/\(∀c∈h.line,c≠10)/\∃p ba bk,h.size=Z (p++h.line)/\cs[o+1]?=V (X ba (Z (p++h.line)) bk)/\w.ownsRow B 5 1 (X ba (Z (p++h.line)) bk) (Z (p++h.line)) (Ba (p++h.line))/\(p=[]\/∃q,p=q++[10])
 |V (.bd q)=>cs[o]?=V (Av false)/\∃bs ba bk hd L,cs[o+1]?=V (X ba (Z bs) bk)/\w.ownsRow B 5 1 (X ba (Z bs) bk) (Z bs) (Ba bs)/\cs[o+2]?=V (O Ai (hd:Ad))/\cs[o+6]?=V (O Ai (L:Ad))/\0<hd/\hd<=600/\L<=300/\q.left=(hd:Ak)+L-Z bs/\q.dst=[]/\cs[o+7]?=V (I ⟨#[]⟩)/\cs[o+8]?=V (I (Aa q.data))/\D.Fl w B cs o
variable {c:Br Cn}
theorem D.At.grown {j:Fh Aj}(h:D.At w B j o c)(g:w.grownBy w' S):D.At w' B j o c:=by
 have a:∀e s v n xs,w.ownsRow B e s v n xs->w'.ownsRow B e s v n xs:=fun e s v n xs q=>zK q g (fun k hk c=>by cases c)
 match c,h with
 |S,h=>exact h
 |V (.hd _),⟨h1,h2,h3,h4,p,ba,bk,h5,h6,h7,h8⟩=>
  obtain⟨i,b,d⟩:=h3.f;exact⟨h1,h2,⟨h3.m,h3.t,⟨i,b,a _ _ _ _ _ d⟩,h3.l,h3.a4,h3.a5⟩,h4,p,ba,bk,h5,h6,a _ _ _ _ _ h7,h8⟩
 |V (.bd _),⟨h0,bs,ba,bk,hd,L,h1,hv,h2,h6,n0,n1,n2,n3,n4,h7,h8,q1,q2,i,k,l,b,d⟩=>
  exact⟨h0,bs,ba,bk,hd,L,h1,a _ _ _ _ _ hv,h2,h6,n0,n1,n2,n3,n4,h7,h8,q1,q2,i,k,l,b,a _ _ _ _ _ d⟩
theorem D.At.two {c:Cn}(h:D.At w B a o (V c))(g:o<=j)(f:j<o+9)(e:a[j]?=V v)(d:v.ownBlock=V k):j=o+1\/j=o+5:=by
 have H:∃b i p q n r s,a[o]?=V (Av b)/\a[o+2]?=V (O Ai i)/\a[o+3]?=V (I p)/\a[o+4]?=V (I q)/\a[o+6]?=V (O Ai n)/\a[o+7]?=V (I r)/\a[o+8]?=V (I s):=by
  match c,h with
  | .hd _,⟨g,f,h3,_⟩=>exact⟨_,_,_,_,_,_,_,g,f,h3.m,h3.t,h3.l,h3.a4,h3.a5⟩
  | .bd _,⟨h0,bs,ba,bk,hd,L,g,hv,f,h6,n0,n1,i,n3,n4,h7,h8,⟨_,q1⟩,⟨_,q2⟩,_⟩=>exact⟨_,_,_,_,_,_,_,h0,f,q1,q2,h6,h7,h8⟩
 obtain⟨b,i,p,q,n,r,s,u,x,y,z,C,E,F⟩:=H;have N:j=o\/j=o+1\/j=o+2\/j=o+3\/j=o+4\/j=o+5\/j=o+6\/j=o+7\/j=o+8:=by omega
 rcases N with rfl|rfl|rfl|rfl|rfl|rfl|rfl|rfl|rfl
 ·rw[u] at e;cases e;cases d
 ·exact Ay rfl
 ·rw[x] at e;cases e;cases d
 ·rw[y] at e;cases e;cases d
 ·rw[z] at e;cases e;cases d
 ·exact Bf rfl
 ·rw[C] at e;cases e;cases d
 ·rw[E] at e;cases e;cases d
 ·rw[F] at e;cases e;cases d
structure D.BPost (w w':Ag) (yb B g n ck m:Ad) (tv th vd vs:Aj) (cs:Fh Aj) (ss:A Ev) (c:Br Cn):Prop where
 ex:∃cs' vs',w'.heap[yb]?=V (Ae #[tv,th,vd,X (V ⟨g,0,S⟩) n ck,vs'] 131 (0,0))/\w'.heap[g]?=V (Ae cs' 195 (0,0))/\cs'.size=cs.size/\(∀j,j<m*9\/m*9+9<=j->cs'[j]?=cs[j]?)/\w'.ownsRow B 44 3 vs' (Z ss) (evCells ss)/\D.At w' B cs' (m*9) c/\(∀k,vs'.ownBlock=V k->vs.ownBlock=V k\/w.heap.size<=k)/\(c≠S->∀j v k,m*9<=j->j<m*9+9->cs'[j]?=V v->v.ownBlock=V k->(∃u,cs[j]?=V u/\u.ownBlock=V k)\/w.heap.size<=k)
 turn:Turn w w' (fun k=>k=yb\/k=g\/vs.ownBlock=V k\/∃j u,m*9<=j/\j<m*9+9/\cs[j]?=V u/\u.ownBlock=V k)
theorem D.BPost.grown {q r:Ag}{j o:Aj}{f:Fh Aj}{i:A Ev}(h:D.BPost w q yb B g n ck m l j o p f i c)(a:q.grownBy r S):D.BPost w r yb B g n ck m l j o p f i c:=by
 obtain⟨b,d,s,t,u,v,x,y,z,C⟩:=h.ex;exact⟨⟨b,d,zE s a,zE t a,u,v,zK x a (fun k hk c=>by cases c),y.grown a,z,C⟩,h.turn.step a (fun k hk=>by cases hk)⟩
structure D.App (w w':Ag) (yb B g n ck m bk g9 cap9:Ad) (ba:Br Eu) (tv th vd vs:Aj) (cs:Fh Aj) (bs:A Ab) (x:Ab):Prop where
 box:w'.heap[yb]?=V (Ae #[tv,th,vd,X (V ⟨g,0,S⟩) n ck,vs] 131 (0,0))
 con:w'.heap[g]?=V (Ae (cs.setIfInBounds (m*9+1) (X (V ⟨g9,0,S⟩) (Z bs+1) cap9)) 195 (0,0))
 row:w'.ownsRow B 5 1 (X (V ⟨g9,0,S⟩) (Z bs+1) cap9) (Z bs+1) (Ba (bs++[x]))
 own:(X ba (Z bs) bk).ownBlock=V g9\/w.heap.size<=g9
 turn:Turn w w' (fun k=>k=g\/(X ba (Z bs) bk).ownBlock=V k)
 rows:∀(e:Cs) (s:Ad) (v:Aj) (k:Ad) (xs:A Aj),w.ownsRow B e s v k xs->e≠5->e≠195->w'.ownsRow B e s v k xs
variable {x:Ab}
abbrev Mc3 (a):=Ae #[O Bp a] 5
abbrev Mc4 (a b c d e f g):=Ae #[a,b,c,X (V ⟨d,0,S⟩) e f,g] 131 (0,0)
theorem zlF {t:Ag}{p a:Ad}{o:Br Eu}{tv:Aj}{F:Fh Aj}{b:A Ab}(u:w.heap[yb]?=V (Mc4 tv Q vd g n ck vs))(z:w.heap[g]?=V (Ae F 195 (0,0)))(E:w.ownsRow B 5 1 (X o (Z b) p) (Z b) (Ba b))(N:t.ownsRow B 5 1 (X (V ⟨f,0,S⟩) (Z b+1) a) (Z b+1) (Ba b++[O Bp x.toNat]))(r:(w.alloc (Mc3 x.toNat)).grownBy t (X o (Z b) p).ownBlock)(q3:(X o (Z b) p).ownBlock=V f\/f=w.heap.size+1):D.App w (t.setCell ⟨g,m*9+1,S⟩ (X (V ⟨f,0,S⟩) (Z b+1) a)) yb B g n ck m p f a o tv Q vd vs F b x:=by
 have l:=Ac w (Mc3 x.toNat) S;have q:=zF t g (m*9+1) (X (V ⟨f,0,S⟩) (Z b+1) a);have d:=zw (zE z l) r (zI (zE z l) (Ao E (Mc3 x.toNat)));have y:=zw (zE u l) r (zI (zE u l) (Ao E (Mc3 x.toNat)));have C:¬g=yb:=fun e=>by have h:=z;rw[e,u] at h;simp at h
 refine⟨zE y q (by simp;exact fun e=>C e.symm),zH (i:=m*9+1) d _,by rw[zaU];exact zJ N q (zI d N),q3.imp id (fun e=>by omega),(((Turn.refl w _).step l (fun k hk=>by cases hk)).step r (fun k hk=>Ay (Bf hk))).step q (fun k hk=>Ay (Ay (Bc hk).symm)),fun e s v k xs ho h1 h2=>?_⟩;have H:=zK (Ao ho (Mc3 x.toNat)) r (fun j hj c=>qB (Ao E (Mc3 x.toNat)) (Ao ho (Mc3 x.toNat)) (fun e=>h1 e.symm) j hj c);exact zJ H q (zI d H (fun e=>h2 e.symm))
theorem D.App.q {d a:Ad}{i:Br Eu}{k o:Aj}{b:Fh Aj}{c:A Ab}(h:D.App w w' yb B g n ck m j d a i l k o p b c x){f:Rq.Head}(q:D.QAt w (m*9+3) B b f):D.QAt w' (m*9+3) B (b.setIfInBounds (m*9+1) (X (V ⟨d,0,S⟩) (Z c+1) a)) f:=by grind[D.App,Rq.Head,D.QAt]
theorem D.App.fl {d a:Ad}{f:Br Eu}{k j o:Aj}{b:Fh Aj}{c:A Ab}(h:D.App w w' yb B g n ck m i d a f k j l o b c x)(q:D.Fl w B b (m*9)):D.Fl w' B (b.setIfInBounds (m*9+1) (X (V ⟨d,0,S⟩) (Z c+1) a)) (m*9):=by grind[D.App,D.Fl]
theorem D.App.post {p q a:Ad}{o:Br Eu}{t d:Aj}{b:Fh Aj}{f:A Ab}(h:D.App w w' yb B g n ck m p q a o t s u d b f x)(r:b[m*9+1]?=V (X o (Z f) p)){l:A Ev}(z:w.ownsRow B 44 3 d (Z l) (evCells l))(y:D.At w' B (b.setIfInBounds (m*9+1) (X (V ⟨q,0,S⟩) (Z f+1) a)) (m*9) c):D.BPost w w' yb B g n ck m t s u d b l c:=by
 refine⟨⟨_,d,h.box,h.con,by simp,fun j i=>?_,h.rows _ _ _ _ _ z (by decide) (by decide),y,fun k hk=>Ay hk,fun _ j v k j1 j2 e1 e2=>?_⟩,?_⟩
 ·rw[Cd,Aw (by omega)]
 ·by_cases i:m*9+1=j
  ·subst i
   rw[Cd,Az rfl] at e1
   split at e1
   ·cases e1
    rcases h.own with e|e
    ·exact Ay ⟨_,r,e.trans e2⟩
    ·exact Bf (by cases e2;exact e)
   ·cases e1
  ·rw[Cd,Aw i] at e1
   exact Ay ⟨v,e1,e2⟩
 ·exact⟨h.turn.os,h.turn.tape,h.turn.output,h.turn.size,fun k hk hn=>h.turn.block k hk (fun c=>hn (c.elim (fun e=>Bf (Ay e)) (fun e=>Bf (Bf (Bf ⟨m*9+1,_,by omega,by omega,r,e⟩)))))⟩
theorem eZ (a:Fh Aj)(o j:Ad)(h:j<o\/o+9<=j):(yR a o)[j]?=a[j]?:=by
 unfold yR;simp only[Cd]
 grind[yR]
theorem so (a:Fh Aj)(o:Ad):(yR a o).size=a.size:=by unfold yR;simp
theorem mE (a:Fh Aj)(o:Ad)(h:o+9<=a.size):(yR a o)[o]?=V (Av false)/\(yR a o)[o+1]?=V (X S 0 0)/\(yR a o)[o+2]?=V (O Ai 0)/\(yR a o)[o+3]?=V (I ⟨#[]⟩)/\(yR a o)[o+4]?=V (I ⟨#[]⟩)/\(yR a o)[o+5]?=V (X S 0 0)/\(yR a o)[o+6]?=V (O Ai 0)/\(yR a o)[o+7]?=V (I ⟨#[]⟩)/\(yR a o)[o+8]?=V (I ⟨#[]⟩):=by
 unfold yR;exact⟨qM (by omega) (qM (by omega) (qM (by omega) (qM (by omega) (qM (by omega) (qM (by omega) (qM (by omega) (qM (by omega) (jd _ (by(try simp only[Ff]);omega))))))))),qM (by omega) (qM (by omega) (qM (by omega) (qM (by omega) (qM (by omega) (qM (by omega) (qM (by omega) (jd _ (by(try simp only[Ff]);omega)))))))),qM (by omega) (qM (by omega) (qM (by omega) (qM (by omega) (qM (by omega) (qM (by omega) (jd _ (by(try simp only[Ff]);omega))))))),qM (by omega) (qM (by omega) (qM (by omega) (qM (by omega) (qM (by omega) (jd _ (by(try simp only[Ff]);omega)))))),qM (by omega) (qM (by omega) (qM (by omega) (qM (by omega) (jd _ (by(try simp only[Ff]);omega))))),qM (by omega) (qM (by omega) (qM (by omega) (jd _ (by(try simp only[Ff]);omega)))),qM (by omega) (qM (by omega) (jd _ (by(try simp only[Ff]);omega))),qM (by omega) (jd _ (by(try simp only[Ff]);omega)),jd _ (by(try simp only[Ff]);omega)⟩
theorem ee (a:Fh Aj)(o:Ad)(h:o+9<=a.size)(j:Ad)(v:Aj)(p:o<=j)(q:j<o+9)(e:(yR a o)[j]?=V v):v.ownBlock=S:=by
 obtain⟨b,c,d,f,g,i,k,l,m⟩:=mE a o h;have n:j=o\/j=o+1\/j=o+2\/j=o+3\/j=o+4\/j=o+5\/j=o+6\/j=o+7\/j=o+8:=by omega
 rcases n with rfl|rfl|rfl|rfl|rfl|rfl|rfl|rfl|rfl
 ·rw[b] at e;cases e;rfl
 ·rw[c] at e;cases e;rfl
 ·rw[d] at e;cases e;rfl
 ·rw[f] at e;cases e;rfl
 ·rw[g] at e;cases e;rfl
 ·rw[i] at e;cases e;rfl
 ·rw[k] at e;cases e;rfl
 ·rw[l] at e;cases e;rfl
 ·rw[m] at e;cases e;rfl
theorem eY (w:Ag)(B:Ad)(a:Fh Aj)(o:Ad)(h:o+9<=a.size):D.At w B (yR a o) o (V (.hd xf)):=by
 obtain⟨b,d,f,g,i,j,k,l,m⟩:=mE a o h;exact⟨b,f,⟨g,i,⟨_,j,Bk _ _ _ _⟩,k,l,m⟩,(fun c hc=>by cases hc),[],S,0,rfl,d,Bk _ _ _ _,Ay rfl⟩
variable {r:A Ab}
theorem zgM {o h:Ag}{a:Ad}{x y:Aj}{c:Fh Aj}{f:A Ev}(p:Turn w o (fun k=>k=yb\/k=g\/l.ownBlock=V k\/∃j u,m*9<=j/\j<m*9+9/\d[j]?=V u/\u.ownBlock=V k))(E:c.size=d.size)(C:∀j,j<m*9\/m*9+9<=j->c[j]?=d[j]?)(N:m*9+9<=d.size)(b:h.heap[yb]?=V (Ae #[x,s,y,X (V ⟨g,0,S⟩) n ck,X (V ⟨i,0,S⟩) (Z f+1) a] 131 (0,0)))(H:h.ownsRow B 44 3 (X (V ⟨i,0,S⟩) (Z f+1) a) (Z f+1) (evCells f++[O Ai ((m:Ak)+1),I ⟨#[]⟩,I (Aa r)]))(z:h.heap[g]?=V (Ae (yR c (m*9)) 195 (0,0)))(F:l.ownBlock=V i\/o.heap.size<=i)(t:Turn o h (fun k=>k=yb\/k=g\/l.ownBlock=V k)):D.BPost w h yb B g n ck m x s y l d (f++[⟨m+1,[],r⟩]) (V (.hd xf)):=by
 refine⟨⟨_,_,b,z,by rw[so,E],fun j q=>by rw[eZ _ _ _ q,C j q],?_,eY _ _ _ _ (by omega),fun k hk=>?_,fun _ j v k j1 j2 e1 e2=>?_⟩,?_⟩
 ·rw[um,Ah];exact H
 ·cases hk;exact F.imp id (fun e=>Bi p.size e)
 ·rw[ee _ _ (by omega) j v j1 j2 e1] at e2;cases e2
 ·exact p.trans t (fun k hk=>hk) (fun k hk=>hk.elim Ay (fun e=>e.elim (fun e=>Bf (Ay e)) (fun e=>Bf (Bf (Ay e)))))
theorem oU {H:Aj}{r:Fh Aj}{v:A Ev}{q:Pc}(x:Ab)(hb:w.heap[yb]?=V (Mc4 N H Q g n ck vs))(hg:w.heap[g]?=V (Ae r 195 (0,0)))(hm:m<n)(hn:n<=64)(ae:m*9+9<=r.size)(hw:w.ownsRow B 44 3 vs (Z v) (evCells v))(ah:Z v<=1000000000)(hB:B<=w.heap.size)(hc:D.At w B r (m*9) (V (.bd q)))(hq:1<=q.left):Am prog 145 #[Al (V ⟨yb,0,S⟩),O Ai (m+1:Ad),O Bp x.toNat] w fun e w'=>e=Af (Av true)/\(q.left≠1->D.BPost w w' yb B g n ck m N H Q vs r v (V (.bd (q.take x))))/\(q.left=1->D.BPost w w' yb B g n ck m N H Q vs r (v++[⟨m+1,[],q.data⟩]) (V (.hd xf))):=by
 obtain⟨h0,b,ba,bk,hd,L,h1,hv,h2,h6,n0,n1,n2,n3,n4,h7,h8,ai⟩:=hc;have aq:Z b<=1000:=by omega
 have k3:=cbi 3 hb;have c1:w.cell? ⟨g,m*9+1,S⟩=V (X ba (Z b) bk):=(zB hg).trans h1;have i2:((m:Ad):Ak)<n:=by omega
 have z:=hid (Ao hv (Mc3 x.toNat));have C:=hid (zE hg (Ac w (Mc3 x.toNat) S));obtain⟨i0,hi,am,an,ao⟩:=Ej zcW;have ab:Y (∀j u,([O Bp x.toNat]:A Aj)[j]?=V u->(w.alloc (Mc3 x.toNat)).cell? ((⟨w.heap.size,0,S⟩:Eu).add j)=V u):=zZ w #[_] _ _ rfl;have aa:Y (∀u∈([O Bp x.toNat]:A Aj),u.oneCell'=true):=fun u hu=>by simp at hu;subst hu;rfl
 have aj:Z b+1<=Bh:=by unfold Bh;omega
 have al:(Z b+1)*1<=140737488355328:=by omega
 have ap:(w.alloc (Mc3 x.toNat)).heap.size=w.heap.size+1:=by simp
 have af:B<=(w.alloc (Mc3 x.toNat)).heap.size:=by omega
 have s:Y (∀f a l,l.ownsRow B 5 1 (X (V ⟨f,0,S⟩) (Z b+1) a) (Z b+1) (Ba b++[O Bp x.toNat])->(w.alloc (Mc3 x.toNat)).grownBy l (X ba (Z b) bk).ownBlock->((X ba (Z b) bk).ownBlock=V f\/f=w.heap.size+1)->D.App w (l.setCell ⟨g,m*9+1,S⟩ (X (V ⟨f,0,S⟩) (Z b+1) a)) yb B g n ck m bk f a ba N H Q vs r b x):=fun f a l q1 q2 q3=>zlF hb hg hv q1 q2 q3
 have i:Y (∀W f a,D.App w W yb B g n ck m bk f a ba N H Q vs r b x->D.BPost w W yb B g n ck m N H Q vs r v (V (.bd (q.take x)))):=fun W f a h=>h.post h1 hw ⟨qM (by omega) h0,b++[x],_,_,hd,L,by rw[Ah];exact jd _,by rw[Ah];exact h.row,qM (by omega) h2,qM (by omega) h6,n0,n1,n2,by show q.left-1=_;rw[Ah,n3];show _=_-(((Z b+1:Ad)):Ak);omega,n4,qM (by omega) h7,by show _=V (I (Aa (if q.dst=[] then q.data else _)));rw[Az n4];exact qM (by omega) h8,h.fl ai⟩
 go_in;go_wp2_with (at_builtin;refine Ei _ rfl _ _ 32 rfl B 5 i0 _ 1 1 underlying32 hi am an ao rfl (by decide) _ _ _ rfl z.o ⟨w.heap.size,0,S⟩ 1 1 [O Bp x.toNat] rfl rfl ab.o aa.o (by decide) aj al af (w.heap.size+1) ap ?_);intro f a l o d t ak;have p:=hid (s.o f a l o d t);have F:=zw C.o d (zI C.o z.o);have q9:l.cell? ⟨g,m*9+1,S⟩=V (X ba (Z b) bk):=(zB F).trans h1;have f9:l.frozen? ⟨g,m*9+1,S⟩=false:=zG F;have r1:(l.setCell ⟨g,m*9+1,S⟩ (X (V ⟨f,0,S⟩) (Z b+1) a)).cell? ⟨g,m*9+1,S⟩=V (X (V ⟨f,0,S⟩) (Z b+1) a):=(zB p.o.con).trans (jd _);have r2:(l.setCell ⟨g,m*9+1,S⟩ (X (V ⟨f,0,S⟩) (Z b+1) a)).cell? ⟨g,m*9+2,S⟩=V (O Ai (hd:Ad)):=(zB p.o.con).trans (qM (by omega) h2);have r6:(l.setCell ⟨g,m*9+1,S⟩ (X (V ⟨f,0,S⟩) (Z b+1) a)).cell? ⟨g,m*9+6,S⟩=V (O Ai (L:Ad)):=(zB p.o.con).trans (qM (by omega) h6);go_upto_region 3 with fail;generalize(l.setCell ⟨g,m*9+1,S⟩ (X (V ⟨f,0,S⟩) (Z b+1) a))=w10 at*
 by_cases hl:q.left=1
 ·have ag:(((Z b:Ak)+1) == ((hd:Ak)+L))=true:=by rw[Hw];omega
  have E:=hid hl;go_upto_region 18 with fail;go_quiet (fail);have y:=hid (x3 w10 nq);generalize w10.drewN nq=w11 at*;obtain⟨ea,ek,rfl⟩:=zL hw;have ad:Y (Am prog 201 #[Al (V ⟨yb,0,S⟩),O Ai (m+1:Ad)] w11 fun e w'=>e=Af (Cm #[])/\D.BPost w w' yb B g n ck m N H Q (X ea (Z v) ek) r (v++[⟨m+1,[],q.data⟩]) (V (.hd xf))):=by
   have hp:=((i.o _ _ _ p.o).grown y.o).turn;refine(cw (zE p.o.box y.o) (zE p.o.con y.o) (by rw[Ff];exact ae) (zK (p.o.rows _ _ _ _ _ hw (by decide) (by decide)) y.o (fun k hk c=>by cases c)) hm hn ah (qM (by omega) h7) (qM (by omega) h8) (Bi hB hp.size)).mono fun e w' ⟨q1,g8,c8,q2,q3,q4,q5,q6⟩=>⟨q1,zgM hp (by simp) (fun j hj=>by rw[Cd,Aw (by omega)]) ae q2 q3 q4 q5 q6⟩
  go_wp2_with fail;refine ad.o.mono ?_;rintro e ar ⟨rfl,hx⟩;have HX:=hid hx;go_wp2;go_ret;exact⟨rfl,fun e=>absurd E.o e,fun _=>HX.o⟩
 ·have ag:(((Z b:Ak)+1) == ((hd:Ak)+L))=false:=by rw[Ch];omega
  have E:=hid hl;go_upto_region 18 with fail;go_quiet (fail);have y:=hid (x3 w10 nq);generalize w10.drewN nq=w11 at*;go_wp2;go_ret;exact⟨rfl,fun _=>(i.o _ _ _ p.o).grown y.o,fun e=>absurd e E.o⟩
def jA (m:Ad):Cn×A Ab->A Ev×Br Cn
 |(.bd p,[])=>if p.left=0 then ([⟨m+1,p.dst,p.data⟩],V (.hd xf)) else ([],V (.bd p))
 |(.hd h,[])=>([],V (.hd h))
 |(_,r)=>([⟨m+1,[],r⟩],S)
theorem zlI {z f:Ag}{p a:Ad}{H F:Aj}{l:Fh Aj}{o:A Ev}(C:Turn w z (fun k=>k=yb\/k=g\/s.ownBlock=V k\/∃j u,m*9<=j/\j<m*9+9/\l[j]?=V u/\u.ownBlock=V k))(hs:d.size=l.size)(Q:∀j,j<m*9\/m*9+9<=j->d[j]?=l[j]?)(hz:m*9+9<=l.size)(b:f.heap[yb]?=V (Ae #[H,F,N,X (V ⟨g,0,S⟩) n ck,X (V ⟨p,0,S⟩) (Z o+1) a] 131 (0,0)))(E:f.ownsRow B 44 3 (X (V ⟨p,0,S⟩) (Z o+1) a) (Z o+1) (evCells o++[O Ai ((m:Ak)+1),I ⟨#[]⟩,I (Aa r)]))(v:f.heap[g]?=V (Ae d 195 (0,0)))(ow:s.ownBlock=V p\/z.heap.size<=p)(t:Turn z f (fun k=>k=yb\/s.ownBlock=V k)):D.BPost w (f.setCell ⟨g,m*9,S⟩ (Av true)) yb B g n ck m H F N s l (o++[⟨m+1,[],r⟩]) S:=by
 have x:=zF f g (m*9) (Av true);have y:¬g=yb:=fun e=>by have h:=v;rw[e,b] at h;simp at h
 refine⟨⟨_,_,zE b x (by simp;exact fun e=>y e.symm),zH (i:=m*9) v _,by simp[hs],fun j q=>?_,?_,jd _,fun k hk=>?_,fun c=>absurd rfl c⟩,?_⟩
 ·rw[Cd,Aw (by omega),Q j q]
 ·rw[um,Ah];exact zJ E x (zI v E)
 ·cases hk;exact ow.imp id (fun e=>Bi C.size e)
 ·have t2:=C.trans t (fun k hk=>hk) (fun k hk=>hk.elim Ay (fun e=>Bf (Bf (Ay e))))
  exact t2.step x (fun k hk=>Ay (Bf (Ay (Bc hk).symm)))
theorem zaT (h:Rq.Head)(l:A Ab):(yH h l).size=h.size/\(yH h l).line=h.line:=by grind[yH,Rq.Head]
theorem zgU (h:Rq.Head)(l:A Ab):(jc h l).size=h.size/\(jc h l).line=h.line:=by grind[jc,Rq.Head]
theorem zeL (h:Rq.Head)(l:A Ab):(yT h l).1.size=h.size/\(yT h l).1.line=h.line:=by grind[yT,zaT,zgU,Rq.Head]
theorem zj3 {p:A Ab}(g:h.size=Z (p++h.line))(d:∀c∈h.line,c≠10)(i:p=[]\/∃q,p=q++[10])(a:(qe h x).2.2=[]):∃p',(qe h x).1.size=Z (p'++(qe h x).1.line)/\p'++(qe h x).1.line=(p++h.line)++[x]/\(p'=[]\/∃q,p'=q++[10])/\∀c∈(qe h x).1.line,c≠10:=by
 unfold qe at*
 by_cases f:600<h.size+1
 ·rw[Az f] at a;exact absurd (show j6=[] from a) (by decide)
 ·rw[Aw f] at a ⊢
  by_cases b:x=10
  ·rw[Az b] at a ⊢
   obtain⟨j,k⟩:=zeL { h with size:=h.size+1,line:=[] } h.line;rw[j,k];exact⟨(p++h.line)++[x],by show h.size+1=_;rw[g];simp;omega,by simp,Bf ⟨p++h.line,by rw[b]⟩,fun c hc=>by cases hc⟩
  ·rw[Aw b]
   exact⟨p,by show h.size+1=Z (p++(h.line++[x]));rw[g];simp;omega,by show p++(h.line++[x])=_;simp,i,fun c hc=>by
    rcases Ea.1 hc with hc|hc
    ·exact d c hc
    ·rw[Si.1 hc];exact b⟩
theorem zgL {q r h:Aj}{f:Fh Aj}{i:A Ev}{c:Cn}(b:w'.heap[yb]?=V (Ae #[q,p,r,X (V ⟨g,0,S⟩) n ck,h] 131 (0,0)))(s:w'.heap[g]?=V (Ae d 195 (0,0)))(y:d.size=f.size)(x:∀j,j<m*9\/m*9+9<=j->d[j]?=f[j]?)(z:w'.ownsRow B 44 3 h (Z i) (evCells i))(l:D.At w' B d (m*9) (V c))(o:∀a,a=1\/a=5->∀v k,d[m*9+a]?=V v->v.ownBlock=V k->(∃u,f[m*9+a]?=V u/\u.ownBlock=V k)\/w.heap.size<=k)(t:Turn w w' (fun k=>k=yb\/k=g\/h.ownBlock=V k\/∃j u,m*9<=j/\j<m*9+9/\f[j]?=V u/\u.ownBlock=V k)):D.BPost w w' yb B g n ck m q p r h f i (V c):=
 ⟨⟨d,h,b,s,y,x,z,l,fun k hk=>Ay hk,fun _ j v k j1 j2 e1 e2=>by
  rcases l.two j1 j2 e1 e2 with rfl|rfl
  ·exact o 1 (Ay rfl) v k e1 e2
  ·exact o 5 (Bf rfl) v k e1 e2⟩,t⟩
theorem zlJ {c:Ag}{a:Ad}{y x z j:Aj}{C:Fh Aj}{d:A Aj}(q:w.heap[yb]?=V (Mc4 y x z g n ck j))(s:w.heap[g]?=V (Ae C 195 (0,0)))(F:w.ownsRow B 44 3 j k d)(E:c.ownsRow B 44 3 (Mc1 b k a) (k+1) (d++[O Ai ((m:Ak)+1),I ⟨#[]⟩,I (Aa r)]))(v:(w.alloc (Ae #[O Ai ((m:Ak)+1),I ⟨#[]⟩,I (Aa r)] 44)).grownBy c j.ownBlock)(H:j.ownBlock=V b\/b=w.heap.size+1):c.heap[yb]?=V (Mc4 y x z g n ck j)/\(c.setCell ⟨yb,4,S⟩ (Mc1 b k a)).heap[yb]?=V (Ae #[y,x,z,X (V ⟨g,0,S⟩) n ck,(Mc1 b k a)] 131 (0,0))/\(c.setCell ⟨yb,4,S⟩ (Mc1 b k a)).ownsRow B 44 3 (Mc1 b k a) (k+1) (d++[O Ai ((m:Ak)+1),I ⟨#[]⟩,I (Aa r)])/\(c.setCell ⟨yb,4,S⟩ (Mc1 b k a)).heap[g]?=V (Ae C 195 (0,0))/\(j.ownBlock=V b\/w.heap.size<=b)/\Turn w (c.setCell ⟨yb,4,S⟩ (Mc1 b k a)) (fun k=>k=yb\/j.ownBlock=V k):=by
 have l:=Ac w (Ae #[O Ai ((m:Ak)+1),I ⟨#[]⟩,I (Aa r)] 44) S;have p:=zF c yb 4 (Mc1 b k a);have o:=Ao F (Ae #[O Ai ((m:Ak)+1),I ⟨#[]⟩,I (Aa r)] 44);have f:=zw (zE q l) v (zI (zE q l) o);have t:=zw (zE s l) v (zI (zE s l) o);have u:¬g=yb:=fun e=>by have h:=s;rw[e,q] at h;simp at h
 exact⟨f,zH (i:=4) f _,zJ E p (zI f E),zE t p (by simp;exact u),H.imp id (fun e=>by omega),(((Turn.refl w _).step l (fun k hk=>by cases hk)).step v (fun k hk=>Ay (Bf hk))).step p (fun k hk=>Ay (Ay (Bc hk).symm))⟩
theorem zl2 {e:Cs}{s a:Ad}{b:A Aj}(h:w.ownsRow B e s (X (V ⟨g,0,S⟩) n a) n b):n<=a:=by
 rcases h.2 with ⟨h1,h2⟩|⟨g,c,cur,hv,hB,hb,hle,_⟩
 ·omega
 grind
theorem D.QAt.size {b:Fh Aj}(q:D.QAt w o B b h)(a:Ad)(l:A Ab):D.QAt w o B b { h with size:=a,line:=l }:=⟨q.m,q.t,q.f,q.l,q.a4,q.a5⟩
theorem oV {th:Aj}{ss:A Ev}(x:Ab)(hb:w.heap[yb]?=V (Ae #[Av false,th,vd,X (V ⟨g,0,S⟩) n ck,vs] 131 (0,0)))(hg:w.heap[g]?=V (Ae cs 195 (0,0)))(hm:m<n)(hn:n<=64)(aS:m*9+9<=cs.size)(hw:w.ownsRow B 44 3 vs (Z ss) (evCells ss))(bg:Z ss<=1000000000)(hB:B<=w.heap.size)(hc:D.At w B cs (m*9) (V (.hd h)))(ok:HOk h):Am prog 145 #[Al (V ⟨yb,0,S⟩),O Ai (m+1:Ad),O Bp x.toNat] w fun e w'=>e=Af (Av (decide ((qe h x).2.2=[])))/\D.BPost w w' yb B g n ck m (Av false) th vd vs cs (ss++(jA m (Cn.take Yd.D0 h x)).1) (jA m (Cn.take Yd.D0 h x)).2:=by
 obtain⟨h0,h2,hq,aQ,p,ba,bk,hs,h1,hv,hp⟩:=hc;obtain⟨b,ak⟩:∃b,Y (b=p++h.line):=⟨_,rfl⟩;rw[<-ak.o] at hs h1 hv;have bf:Z b<=600:=by have:=ok.size;omega
 have HS:=hid hs;clear hs;have k3:=cbi 3 hb;have c1:w.cell? ⟨g,m*9+1,S⟩=V (X ba (Z b) bk):=(zB hg).trans h1;have i1:((m+1:Ad):Ak)-1=(m:Ad):=by omega
 have i2:((m:Ad):Ak)<n:=by omega
 have bv:=zO hg;have al:=hid (Ao hv (Ae #[O Bp x.toNat] 5));have aG:=hid (zE hg (Ac w (Ae #[O Bp x.toNat] 5) S));have cX:(w.alloc (Ae #[O Bp x.toNat] 5)).cell? ⟨g,m*9+1,S⟩=V (X ba (Z b) bk):=(zB aG.o).trans h1;obtain⟨i0,hi,bp,bq,ap⟩:=Ej zcW;have ax:Y (∀j u,([O Bp x.toNat]:A Aj)[j]?=V u->(w.alloc (Ae #[O Bp x.toNat] 5)).cell? ((⟨w.heap.size,0,S⟩:Eu).add j)=V u):=zZ w #[_] _ _ rfl;have ar:Y (∀u∈([O Bp x.toNat]:A Aj),u.oneCell'=true):=fun u hu=>by simp at hu;subst hu;rfl
 have bh:Z b+1<=Bh:=by unfold Bh;omega
 have bo:(Z b+1)*1<=140737488355328:=by omega
 have br:(w.alloc (Ae #[O Bp x.toNat] 5)).heap.size=w.heap.size+1:=by simp
 have a8:B<=(w.alloc (Ae #[O Bp x.toNat] 5)).heap.size:=by omega
 have aU:Y (∀g9 d w9,w9.ownsRow B 5 1 (X (V ⟨g9,0,S⟩) (Z b+1) d) (Z b+1) (Ba b++[O Bp x.toNat])->(w.alloc (Ae #[O Bp x.toNat] 5)).grownBy w9 (X ba (Z b) bk).ownBlock->((X ba (Z b) bk).ownBlock=V g9\/g9=w.heap.size+1)->D.App w (w9.setCell ⟨g,m*9+1,S⟩ (X (V ⟨g9,0,S⟩) (Z b+1) d)) yb B g n ck m bk g9 d ba (Av false) th vd vs cs b x):=fun g9 d w9 q1 q2 q3=>zlF hb hg hv q1 q2 q3
 have bi:=ok.heads;obtain⟨H,aa⟩:∃H,Y (H=qe h x):=⟨_,rfl⟩;have ao:Y (600<h.size+1->H=({ h with size:=h.size+1 },false,j6)):=fun e=>by rw[aa.o];unfold qe;rw[Az e]
 have aB:Y (¬600<h.size+1->x=10->H=yT { h with size:=h.size+1,line:=[] } h.line):=fun e e2=>by rw[aa.o];unfold qe;rw[Aw e,Az e2]
 have Q:Y (¬600<h.size+1->¬x=10->H=({ h with size:=h.size+1,line:=h.line++[x] },false,[])):=fun e e2=>by rw[aa.o];unfold qe;rw[Aw e,Aw e2]
 clear hv;go_in;go_wp2_with (at_builtin;refine Ei _ rfl _ _ 32 rfl B 5 i0 _ 1 1 underlying32 hi bp bq ap rfl (by decide) _ _ _ rfl al.o ⟨w.heap.size,0,S⟩ 1 1 [O Bp x.toNat] rfl rfl ax.o ar.o (by decide) bh bo a8 (w.heap.size+1) br ?_);intro g9 d w9 F y aC aR;have N:=hid (aU.o g9 d w9 F y aC);have aO:=zw aG.o y (zI aG.o al.o);have q9:w9.cell? ⟨g,m*9+1,S⟩=V (X ba (Z b) bk):=(zB aO).trans h1;have f9:w9.frozen? ⟨g,m*9+1,S⟩=false:=zG aO;have r1:(w9.setCell ⟨g,m*9+1,S⟩ (X (V ⟨g9,0,S⟩) (Z b+1) d)).cell? ⟨g,m*9+1,S⟩=V (X (V ⟨g9,0,S⟩) (Z b+1) d):=(zB N.o.con).trans (jd _);have r2:(w9.setCell ⟨g,m*9+1,S⟩ (X (V ⟨g9,0,S⟩) (Z b+1) d)).cell? ⟨g,m*9+2,S⟩=V (O Ai 0):=(zB N.o.con).trans (qM (by omega) h2);clear F y aC aR aG aO al;go_upto_region 3 with fail;generalize(w9.setCell ⟨g,m*9+1,S⟩ (X (V ⟨g9,0,S⟩) (Z b+1) d))=w10 at*;clear q9 f9 cX c1 k3;have HG:=hid N.o.con;have HQ:=hid (N.o.q hq);have ae:=hid N.o.row;have aZ:=Bi hB N.o.turn.size
 go_upto_if 37 with fail
 go_cut [8,9] (fun av ev wz=>av=I (Aa H.2.2)/\ev=Av (H.2.1 && decide (H.2.2=[]))/\Y (D.LPost w10 wz g (m*9+3) B (195) (cs.setIfInBounds (m*9+1) (X (V ⟨g9,0,S⟩) (Z b+1) d)) H.1 H.2.2))
 ·
  by_cases bu:600<Z b+1
  ·have HP:=hid (LPost.grown (h:={ h with size:=h.size+1 }) (out:=j6) HG.o (HQ.o.size _ _) (zP _ S) (fun _=>rfl))
   have E:=hid (ao.o (by have:=HS.o;omega));have bc:(600:Ak)<(Z b:Ak)+1:=by omega
   clear N HG HQ ae;go_wp2
   go_meet
   ·exact⟨by rw[E.o];rfl,by rw[E.o];rfl,by rw[E.o];exact HP.o⟩
  ·have bc:¬(600:Ak)<(Z b:Ak)+1:=by omega
   by_cases hx:x=10
   ·have a2:=hid hx
    have E:=hid (aB.o (by have:=HS.o;omega) hx);have aD:Y (Z b=Z p+Z h.line):=by show _=_;rw[ak.o,Ah]
    have aV:=hid (zfY (o:=m*9) (h:={ h with size:=h.size+1,line:=[] }) p h.line HG.o (by decide) (HQ.o.size _ _) aZ (by rw[<-aD.o];exact jd _) (fun i u hu=>by
     have h1:=(Bo.1 hu).1;rw[Ah,Ah] at h1;have h2:=World.ownsRow.cellAt ae.o i (by rw[aD.o];simp at h1;omega);rw[ak.o,Bl,a2.o] at h2;rw[h2];unfold Ba;rw[Fq,hu];rfl) hp aQ (by have:=aD.o;omega) (by rw[<-aD.o];exact zl2 ae.o) bi)
    have bn:((x.toNat:Ak) == 10)=true:=by rw[Hw,hx];rfl
    clear N HG HQ ae hx a2;go_wp2_with fail;refine aV.o.mono ?_;rintro e w3 ⟨rfl,a1⟩;have HP:=hid a1;clear a1 aV;go_wp2_with fail
    go_meet
    ·exact⟨by rw[E.o],by rw[E.o];rfl,by rw[E.o];exact HP.o⟩
   ·have HP:=hid (LPost.grown (h:={ h with size:=h.size+1,line:=h.line++[x] }) (out:=[]) HG.o (HQ.o.size _ _) (zP _ S) (fun _=>rfl))
    have E:=hid (Q.o (by have:=HS.o;omega) hx);have bn:((x.toNat:Ak) == 10)=false:=by rw[Ch];intro e;exact hx (Hb.1 (by show x.toNat=10;omega))
    clear N HG HQ ae hx;go_wp2
    go_meet
    ·exact⟨by rw[E.o];rfl,by rw[E.o];rfl,by rw[E.o];exact HP.o⟩
 ·
  obtain⟨rfl,rfl,HL⟩:=hcut;generalize wc=wz at*;obtain⟨s,l1,l2,l3,l4,l5⟩:=HL.o.ex;have ap:s.size=cs.size:=by rw[l2,Ff]
  have e0:s[m*9]?=V (Av false):=(l3 _ (Ay (by omega))).trans (qM (by omega) h0);have e1:s[m*9+1]?=V (X (V ⟨g9,0,S⟩) (Z b+1) d):=(l3 _ (Ay (by omega))).trans (jd _);have e2:s[m*9+2]?=V (O Ai 0):=(l3 _ (Ay (by omega))).trans (qM (by omega) h2);have aj:Y (Turn w wz (fun k=>k=yb\/k=g\/vs.ownBlock=V k\/∃j u,m*9<=j/\j<m*9+9/\cs[j]?=V u/\u.ownBlock=V k)):=N.o.turn.trans HL.o.turn (fun k hk=>hk.elim (fun e=>Bf (Ay e)) (fun e=>Bf (Bf (Bf ⟨m*9+1,_,by omega,by omega,h1,e⟩)))) (fun k hk=>hk.elim (fun e=>Bf (Ay e)) (fun⟨fv,q1,q2⟩=>Bf (Bf (Bf ⟨m*9+5,fv,by omega,by omega,by rw[Cd,Aw (by omega)] at q1;exact q1,q2⟩))));have am:Y (∀j,j<m*9\/m*9+9<=j->s[j]?=cs[j]?):=fun j hj=>(l3 j (by omega)).trans (by rw[Cd,Aw (by omega)])
  have aI:=hid N.o.box;obtain⟨fv,f1,f2⟩:=(N.o.q hq).f;have aP:¬yb=g:=fun e=>by have h:=aI.o;rw[e,N.o.con] at h;simp at h
  have ab:Y (wz.heap[yb]?=V (Ae #[Av false,th,vd,X (V ⟨g,0,S⟩) n ck,vs] 131 (0,0))):=HL.o.turn.keep aI.o (fun c=>c.elim aP (fun⟨u,q1,q2⟩=>zI aI.o f2 (by decide) yb (by rw[f1] at q1;cases q1;exact q2) rfl));have ag:Y (wz.ownsRow B 44 3 vs (Z ss) (evCells ss)):=Turn.row (N.o.rows _ _ _ _ _ hw (by decide) (by decide)) HL.o.turn (fun k hk c=>c.elim (fun e=>zI N.o.con (N.o.rows _ _ _ _ _ hw (by decide) (by decide)) (by decide) k hk e) (fun⟨u,q1,q2⟩=>qB f2 (N.o.rows _ _ _ _ _ hw (by decide) (by decide)) (by decide) k hk (by rw[f1] at q1;cases q1;exact q2)));have an:Y (wz.ownsRow B 5 1 (X (V ⟨g9,0,S⟩) (Z b+1) d) (Z b+1) (Ba (b++[x]))):=Turn.row ae.o HL.o.turn (fun k hk c=>c.elim (fun e=>zI N.o.con ae.o (by decide) k hk e) (fun⟨u,q1,q2⟩=>qB f2 ae.o (by decide) k hk (by rw[f1] at q1;cases q1;exact q2)));have au:Y (∀a,a=1\/a=5->∀v k,s[m*9+a]?=V v->v.ownBlock=V k->(∃u,cs[m*9+a]?=V u/\u.ownBlock=V k)\/w.heap.size<=k):=fun a ha v k q1 q2=>by
   rcases ha with rfl|rfl
   ·rw[e1] at q1;cases q1
    exact N.o.own.imp (fun e=>⟨_,h1,e.trans q2⟩) (fun e=>by cases q2;exact e)
   ·rcases l5 v k q1 q2 with ⟨u,u1,u2⟩|e
    ·exact Ay ⟨u,by rw[Cd,Aw (by omega)] at u1;exact u1,u2⟩
    ·exact Bf (Bi N.o.turn.size e)
  have C:=hid l1;have az:=hid l4;have bt:=Bi hB aj.o.size;obtain⟨ea,ek,rfl⟩:=zL hw;have aw:Y (H.2.2=[]->∃p',H.1.size=Z (p'++H.1.line)/\p'++H.1.line=b++[x]/\(p'=[]\/∃q,p'=q++[10])/\∀c∈H.1.line,c≠10):=fun e=>by
   rw[aa.o] at e ⊢;rw[ak.o];exact zj3 (by rw[HS.o,ak.o]) aQ hp e
  have ay:Y (H.2.2=[]->HOk H.1/\(Z b)+1<=600):=fun e=>by
   refine⟨by rw[aa.o] at e ⊢;exact ok.take x e,?_⟩
   by_cases hb:600<h.size+1
   ·rw[ao.o hb] at e;exact absurd (show j6=[] from e) (by decide)
   ·have:=HS.o;omega
  have ai:Y (Cn.take Yd.D0 h x=if H.2.1 && decide (H.2.2=[]) then (.bd (Yd.D0 H.1),[]) else (.hd H.1,H.2.2)):=by show _=_;rw[aa.o];rfl
  clear N HL HG HQ ae hq hw f1 f2 fv l1 l2 l3 l4 l5 aI aQ hp ak h0 h1 h2 HS ok hb hg bf aZ;obtain⟨h9,en,r⟩:=H;simp only at az aw ay ai;have a0:=eS r
  by_cases hr:r=[]
  ·rw[Cf hr] at a0
   subst hr;have ad:=hid (az.o rfl);obtain⟨aF,bb⟩:=ay.o rfl
   cases en
   ·have af:Y (jA m (Cn.take Yd.D0 h x)=([],V (.hd h9))):=by show _=_;rw[ai.o];rfl
    obtain⟨p',p1,p2,p3,p4⟩:=aw.o rfl;have HX:Y (D.BPost w wz yb B g n ck m (Av false) th vd (X ea (Z ss) ek) cs ss (V (.hd h9))):=zgL ab.o C.o ap am.o ag.o ⟨e0,e2,ad.o,p4,p',V ⟨g9,0,S⟩,d,p1,by rw[p2,Ah];exact e1,by rw[p2,Ah];exact an.o,p3⟩ au.o aj.o;clear az e1 e2 C p1 p2 p3 p4 ad aF e0;go_wp2;go_ret;rw[af.o,<-aa.o,Cv];exact⟨rfl,HX.o⟩
   ·obtain⟨L,hL⟩:∃L:Ad,Y (yi h9=(L:Ad)):=⟨(yi h9).toNat,by show _=_;have:=aF.body;omega⟩
    have a9:L<=300:=by have:=aF.body;rw[hL.o] at this;omega
    have af:Y (jA m (Cn.take Yd.D0 h x)=if L=0 then ([⟨m+1,[],Yd.noPolicy⟩],V (.hd xf)) else ([],V (.bd (Yd.D0 h9)))):=by
     show _=_;rw[ai.o];show(if (yi h9)=0 then _ else _)=_;rw[hL.o]
     by_cases h0:L=0
     ·rw[Az h0,Az (by omega)];rfl
     ·rw[Aw h0,Aw (by omega)]
    have e6:s[m*9+6]?=V (O Ai (L:Ad)):=by have:=ad.o.l;rw[hL.o] at this;exact this
    have e8:=ad.o.a5;have k1:wz.cell? ⟨g,m*9+1,S⟩=V (X (V ⟨g9,0,S⟩) (Z b+1) d):=(zB C.o).trans e1;have k2:wz.cell? ⟨g,m*9+2,S⟩=V (O Ai 0):=(zB C.o).trans e2;have z2:wz.frozen? ⟨g,m*9+2,S⟩=false:=zG C.o;have G2:=hid (zF wz g (m*9+2) (O Ai ((Z b:Ak)+1)));have aK:=hid (zH (i:=m*9+2) C.o (O Ai ((Z b:Ak)+1)));have aX:=hid (zE ab.o G2.o (by simp;exact aP));have aT:=hid (pz (o:=m*9+3) aX.o aK.o (qM (by omega) e8));have G3:=hid (zD G2.o (zF (wz.setCell ⟨g,m*9+2,S⟩ (O Ai ((Z b:Ak)+1))) g (m*9+3+5) (I (Aa Yd.noPolicy))));have ah:=hid (zH (i:=m*9+3+5) aK.o (I (Aa Yd.noPolicy)));have aJ:=hid (zE ab.o G3.o (by simp;exact aP));have aH:=hid (zJ ag.o G3.o (zI C.o ag.o));have aN:=hid (zJ an.o G3.o (zI C.o an.o));have Q:=J (aj.o.step G3.o (fun k hk=>Ay (Bf (Ay (Bc hk).symm))));have aL:Y (D.Fl ((wz.setCell ⟨g,m*9+2,S⟩ (O Ai ((Z b:Ak)+1))).setCell ⟨g,m*9+3+5,S⟩ (I (Aa Yd.noPolicy))) B ((s.setIfInBounds (m*9+2) (O Ai ((Z b:Ak)+1))).setIfInBounds (m*9+3+5) (I (Aa Yd.noPolicy))) (m*9)):=by
     obtain⟨fv,f1,f2⟩:=ad.o.f;exact⟨⟨_,qM (by omega) (qM (by omega) ad.o.m)⟩,⟨_,qM (by omega) (qM (by omega) ad.o.t)⟩,fv,_,_,qM (by omega) (qM (by omega) f1),zJ f2 G3.o (zI C.o f2)⟩
    have aM:Y (∀a,a=1\/a=5->∀v k,((s.setIfInBounds (m*9+2) (O Ai ((Z b:Ak)+1))).setIfInBounds (m*9+3+5) (I (Aa Yd.noPolicy)))[m*9+a]?=V v->v.ownBlock=V k->(∃u,cs[m*9+a]?=V u/\u.ownBlock=V k)\/w.heap.size<=k):=fun a ha v k q1 q2=>by
     rw[Cd,Aw (by omega),Cd,Aw (by omega)] at q1;exact au.o a ha v k q1 q2
    have aE:Y (∀j,j<m*9\/m*9+9<=j->((s.setIfInBounds (m*9+2) (O Ai ((Z b:Ak)+1))).setIfInBounds (m*9+3+5) (I (Aa Yd.noPolicy)))[j]?=cs[j]?):=fun j hj=>by rw[Cd,Aw (by omega),Cd,Aw (by omega)];exact am.o j hj
    have aA:Y (((s.setIfInBounds (m*9+2) (O Ai ((Z b:Ak)+1))).setIfInBounds (m*9+3+5) (I (Aa Yd.noPolicy))).size=cs.size):=by show _=_;rw[Ff,Ff,ap]
    have z:Y (((s.setIfInBounds (m*9+2) (O Ai ((Z b:Ak)+1))).setIfInBounds (m*9+3+5) (I (Aa Yd.noPolicy)))[m*9]?=V (Av false)/\((s.setIfInBounds (m*9+2) (O Ai ((Z b:Ak)+1))).setIfInBounds (m*9+3+5) (I (Aa Yd.noPolicy)))[m*9+1]?=V (X (V ⟨g9,0,S⟩) (Z b+1) d)/\((s.setIfInBounds (m*9+2) (O Ai ((Z b:Ak)+1))).setIfInBounds (m*9+3+5) (I (Aa Yd.noPolicy)))[m*9+2]?=V (O Ai ((Z b+1:Ad):Ak))/\((s.setIfInBounds (m*9+2) (O Ai ((Z b:Ak)+1))).setIfInBounds (m*9+3+5) (I (Aa Yd.noPolicy)))[m*9+6]?=V (O Ai (L:Ad))/\((s.setIfInBounds (m*9+2) (O Ai ((Z b:Ak)+1))).setIfInBounds (m*9+3+5) (I (Aa Yd.noPolicy)))[m*9+7]?=V (I ⟨#[]⟩)/\((s.setIfInBounds (m*9+2) (O Ai ((Z b:Ak)+1))).setIfInBounds (m*9+3+5) (I (Aa Yd.noPolicy)))[m*9+8]?=V (I (Aa Yd.noPolicy))):=⟨qM (by omega) (qM (by omega) e0),qM (by omega) (qM (by omega) e1),qM (by omega) (jd _),qM (by omega) (qM (by omega) e6),qM (by omega) (qM (by omega) ad.o.a4),jd _ (by rw[Ff];omega)⟩;have r1:((wz.setCell ⟨g,m*9+2,S⟩ (O Ai ((Z b:Ak)+1))).setCell ⟨g,m*9+3+5,S⟩ (I (Aa Yd.noPolicy))).cell? ⟨g,m*9+1,S⟩=V (X (V ⟨g9,0,S⟩) (Z b+1) d):=(zB ah.o).trans z.o.2.1;have r2:((wz.setCell ⟨g,m*9+2,S⟩ (O Ai ((Z b:Ak)+1))).setCell ⟨g,m*9+3+5,S⟩ (I (Aa Yd.noPolicy))).cell? ⟨g,m*9+2,S⟩=V (O Ai ((Z b:Ak)+1)):=(zB ah.o).trans z.o.2.2.1;have r6:((wz.setCell ⟨g,m*9+2,S⟩ (O Ai ((Z b:Ak)+1))).setCell ⟨g,m*9+3+5,S⟩ (I (Aa Yd.noPolicy))).cell? ⟨g,m*9+6,S⟩=V (O Ai (L:Ad)):=(zB ah.o).trans z.o.2.2.2.1;clear az e0 e1 e2 e6 e8 C ad aF G2 aK aX G3 ap;go_wp2_with fail;refine aT.o.mono ?_;rintro e aq ⟨rfl,hW⟩;rw[hW];clear hW aq aT;generalize((wz.setCell ⟨g,m*9+2,S⟩ (O Ai ((Z b:Ak)+1))).setCell ⟨g,m*9+3+5,S⟩ (I (Aa Yd.noPolicy)))=aq at*;generalize((s.setIfInBounds (m*9+2) (O Ai ((Z b:Ak)+1))).setIfInBounds (m*9+3+5) (I (Aa Yd.noPolicy)))=cs3 at*;clear k1 k2 z2
    by_cases hl:L=0
    ·subst hl
     rw[Az rfl] at af;have be:(((Z b:Ak)+1) == (((Z b:Ak)+1)+((0:Ad):Ak)))=true:=by rw[Hw];omega
     go_upto_region 18 with fail;go_quiet (fail);have GN:=hid (x3 aq nq);generalize aq.drewN nq=w21 at*;clear r1 r2 r6;have aW:Y (Am prog 201 #[Al (V ⟨yb,0,S⟩),O Ai (m+1:Ad)] w21 fun e w'=>e=Af (Cm #[])/\D.BPost w w' yb B g n ck m (Av false) th vd (X ea (Z ss) ek) cs (ss++[⟨m+1,[],Yd.noPolicy⟩]) (V (.hd xf))):=by
      have hp:=Q.o.step GN.o (fun k hk=>by cases hk);refine(cw (zE aJ.o GN.o) (zE ah.o GN.o) (by rw[aA.o];exact aS) (zK aH.o GN.o (fun k hk c=>by cases c)) hm hn bg z.o.2.2.2.2.1 z.o.2.2.2.2.2 (Bi hB hp.size)).mono fun e w' ⟨q1,g8,c8,q2,q3,q4,q5,q6⟩=>⟨q1,zgM hp aA.o aE.o aS q2 q3 q4 q5 q6⟩
     clear aJ ah aH aN GN;go_wp2_with fail;refine aW.o.mono ?_;rintro e bx ⟨rfl,hx⟩;have HX:=hid hx;clear hx;go_wp2;go_ret;rw[af.o,<-aa.o];exact⟨rfl,HX.o⟩
    ·rw[Aw hl] at af
     have be:(((Z b:Ak)+1) == (((Z b:Ak)+1)+(L:Ak)))=false:=by rw[Ch];omega
     go_upto_region 18 with fail;go_quiet (fail);have GN:=hid (x3 aq nq);generalize aq.drewN nq=w21 at*;clear r1 r2 r6;have HX:Y (D.BPost w w21 yb B g n ck m (Av false) th vd (X ea (Z ss) ek) cs ss (V (.bd (Yd.D0 h9)))):=(zgL (c:=.bd (Yd.D0 h9)) aJ.o ah.o aA.o aE.o aH.o ⟨z.o.1,b++[x],V ⟨g9,0,S⟩,d,Z b+1,L,by rw[Ah];exact z.o.2.1,by rw[Ah];exact aN.o,z.o.2.2.1,z.o.2.2.2.1,by omega,bb,a9,by show yi h9=_;rw[hL.o,Ah];show(L:Ak)=((Z b+1:Ad):Ak)+L-((Z b+1:Ad):Ak);omega,rfl,z.o.2.2.2.2.1,z.o.2.2.2.2.2,aL.o⟩ aM.o Q.o).grown GN.o;clear aJ ah aH aN GN;go_wp2;go_ret;rw[af.o,<-aa.o,Cv];exact⟨rfl,HX.o⟩
  ·rw[Ce hr] at a0
   have af:Y (jA m (Cn.take Yd.D0 h x)=([⟨m+1,[],r⟩],S)):=by
    show _=_;rw[ai.o,Ce hr,Bool.and_false];obtain⟨a,l,rfl⟩:=List.exists_cons_of_ne_nil hr
    rfl
   have k4:=cbi 4 ab.o;have kA:=cbi 4 (zE ab.o (Ac wz (Ae #[O Ai ((m:Ak)+1),I ⟨#[]⟩,I (Aa r)] 44) S));obtain⟨i0,hi,bj,bl,bm⟩:=Ej m9;have al:=hid (Ao ag.o (Ae #[O Ai ((m:Ak)+1),I ⟨#[]⟩,I (Aa r)] 44));have ax:Y (∀j u,([O Ai ((m:Ak)+1),I ⟨#[]⟩,I (Aa r)]:A Aj)[j]?=V u->(wz.alloc (Ae #[O Ai ((m:Ak)+1),I ⟨#[]⟩,I (Aa r)] 44)).cell? ((⟨wz.heap.size,0,S⟩:Eu).add j)=V u):=zZ wz #[_,_,_] _ _ rfl;have ar:Y (∀u∈([O Ai ((m:Ak)+1),I ⟨#[]⟩,I (Aa r)]:A Aj),u.oneCell'=true):=fun u hu=>by simp at hu;rcases hu with rfl|rfl|rfl <;> rfl
   have a6:Y (Z ss+1<=Bh):=by show _<=_;unfold Bh;omega
   have a7:Y ((Z ss+1)*40<=140737488355328):=by show _<=_;omega
   have aY:Y ((wz.alloc (Ae #[O Ai ((m:Ak)+1),I ⟨#[]⟩,I (Aa r)] 44)).heap.size=wz.heap.size+1):=by show _=_;simp
   have a3:Y (B<=(wz.alloc (Ae #[O Ai ((m:Ak)+1),I ⟨#[]⟩,I (Aa r)] 44)).heap.size):=by show _<=_;rw[aY.o];omega
   have bw:=zO ab.o;clear az e1 e2;go_wp2_with (at_builtin;refine Ei _ rfl _ _ 41 rfl B 44 i0 _ 3 40 underlying41 hi bj bl bm rfl (by decide) _ _ _ rfl al.o ⟨wz.heap.size,0,S⟩ 1 1 [O Ai ((m:Ak)+1),I ⟨#[]⟩,I (Aa r)] rfl rfl ax.o ar.o (by decide) a6.o a7.o a3.o (wz.heap.size+1) aY.o ?_);intro p9 pc w9 F y aC aR;obtain⟨y9,b9,r9,c9,o9,t9⟩:=zlJ ab.o C.o ag.o F y aC;have q4:=cbi 4 y9;have f4:=zm9 4 y9;have q0:(w9.setCell ⟨yb,4,S⟩ (X (V ⟨p9,0,S⟩) (Z ss+1) pc)).cell? ⟨g,m*9,S⟩=V (Av false):=(zB c9).trans e0;have f0:(w9.setCell ⟨yb,4,S⟩ (X (V ⟨p9,0,S⟩) (Z ss+1) pc)).frozen? ⟨g,m*9,S⟩=false:=zG c9;have HX:=hid (zlI aj.o ap am.o aS b9 r9 c9 o9 t9);clear F y aC aR al y9 b9 r9 c9 o9 t9 C;go_wp2;go_ret;rw[af.o,<-aa.o];exact⟨by rw[Ce hr];rfl,HX.o⟩
def tU (m:Ad)(c:Cn)(x:Ab):A Ev×Br Cn:=
 match c with
 | .hd h=>jA m (Cn.take Yd.D0 h x)
 | .bd p=>jA m (.bd (p.take x),[])
theorem mm (m:Ad)(c:Cn)(r:A Ab):(jA m (c,r)).2.isSome=decide (r=[]):=by
 cases r <;> grind[Ev,Cn,jA]
theorem ze4 (h:Rq.Head)(x:Ab):(Cn.take Yd.D0 h x).2=(qe h x).2.2:=by grind[Cn.take,Rq.Head,Yd.D0,qe]
theorem zdY (y:Yd)(m:Ad)(c:Cn)(r:A Ab)(f:m<Z y.conns):(y.put m c).after m r={ y with conns:=y.conns.set m (jA m (c,r)).2,sent:=y.sent++(jA m (c,r)).1 }:=by
 have e:(y.conns.set m (V c))[m]?=V (V c):=by rw[Fm f]
 cases r with
 |nil=>
  show(y.put m c).ready m=_;unfold Yd.ready;show(match (y.conns.set m (V c))[m]? with|V (V (.bd p))=>_|_=>_)=_;rw[e]
  cases c with
  |hd h=>show y.put m (.hd h)=_;unfold Yd.put jA;simp
  |bd p=>
   show(if p.left=0 then _ else _)=_;unfold jA
   by_cases b:p.left=0
   ·rw[Az b];simp only[Az b];unfold Yd.put Yd.send;simp
   ·rw[Aw b];simp only[Aw b];unfold Yd.put;simp
 |cons a t=>
  have d:jA m (c,a::t)=([⟨m+1,[],a::t⟩],S):=by cases c <;> rfl
  rw[d];show((y.put m c).send ⟨m+1,[],a::t⟩).ended m=_;unfold Yd.put Yd.send Yd.ended;simp
theorem bF (y:Yd)(m:Ad)(c:Cn)(x:Ab)(a:y.conns[m]?=V (V c)):y.take0 m x={ y with conns:=y.conns.set m (tU m c x).2,sent:=y.sent++(tU m c x).1 }:=by grind[List.getElem?_eq_some_iff,Yd.take0,zdY,Yd,Cn,tU]
theorem ziJ {k i:Aj}{f:A Ev}{c:Cn}(x:Ab)(q:w.heap[yb]?=V (Ae #[Av false,k,l,X (V ⟨g,0,S⟩) n ck,i] 131 (0,0)))(r:w.heap[g]?=V (Ae a 195 (0,0)))(t:m<n)(u:n<=64)(d:m*9+9<=a.size)(v:w.ownsRow B 44 3 i (Z f) (evCells f))(b:Z f<=1000000000)(o:B<=w.heap.size)(j:D.At w B a (m*9) (V c))(y:COk c):Am prog 145 #[Al (V ⟨yb,0,S⟩),O Ai (m+1:Ad),O Bp x.toNat] w fun e w'=>e=Af (Av (tU m c x).2.isSome)/\D.BPost w w' yb B g n ck m (Av false) k l i a (f++(tU m c x).1) (tU m c x).2:=by
 cases c with
 |hd h=>
  refine(oV x q r t u d v b o j y).mono fun e w' ⟨q1,q2⟩=>⟨q1.trans ?_,q2⟩
  show _=Af (Av (jA m ((Cn.take Yd.D0 h x).1,(Cn.take Yd.D0 h x).2)).2.isSome);rw[mm,ze4]
 |bd p=>
  have hd:p.dst=[]:=by obtain⟨_,_,_,_,_,_,_,_,_,_,_,_,_,_,z,_⟩:=j;exact z
  refine(oU x q r t u d v b o j y.1).mono fun e w' ⟨q1,q2,q3⟩=>⟨q1.trans ?_,?_⟩
  ·show _=Af (Av (jA m (.bd (p.take x),[])).2.isSome)
   rw[mm];rfl
  ·show D.BPost w w' yb B g n ck m (Av false) k l i a (f++(if p.left-1=0 then ([⟨m+1,p.dst,if p.dst=[] then p.data else _⟩],V (.hd xf)) else ([],V (.bd (p.take x))):A Ev×Br Cn).1) (if p.left-1=0 then ([⟨m+1,p.dst,if p.dst=[] then p.data else _⟩],V (.hd xf)) else ([],V (.bd (p.take x))):A Ev×Br Cn).2
   by_cases s:p.left=1
   ·rw[Az (by omega),Az hd,hd];exact q3 s
   ·rw[Aw (by omega),Cv];exact q2 s
theorem D.At.move {i b:Fh Aj}(h:D.At w B i o c)(a:∀j,o<=j->j<o+9->b[j]?=i[j]?)(g:∀j v k,o<=j->j<o+9->i[j]?=V v->v.ownBlock=V k->w'.heap[k]?=w.heap[k]?):D.At w' B b o c:=by
 have n:=a o (by omega) (by omega);have u:=a (o+1) (by omega) (by omega);have x:=a (o+2) (by omega) (by omega);have y:=a (o+3) (by omega) (by omega);have z:=a (o+4) (by omega) (by omega);have C:=a (o+5) (by omega) (by omega);have E:=a (o+6) (by omega) (by omega);have F:=a (o+7) (by omega) (by omega);have H:=a (o+8) (by omega) (by omega)
 match c,h with
 |S,h=>exact n.trans h
 |V (.hd _),⟨h1,h2,h3,h4,p,ba,bk,h5,h6,h7,h8⟩=>
  obtain⟨s,d,r⟩:=h3.f;exact⟨n.trans h1,x.trans h2,⟨y.trans h3.m,z.trans h3.t,⟨s,C.trans d,jH r (fun k q=>g (o+5) _ k (by omega) (by omega) d q)⟩,E.trans h3.l,F.trans h3.a4,H.trans h3.a5⟩,h4,p,ba,bk,h5,u.trans h6,jH h7 (fun k q=>g (o+1) _ k (by omega) (by omega) h6 q),h8⟩
 |V (.bd _),⟨h0,bs,ba,bk,hd,L,h1,hv,h2,h6,n0,n1,n2,n3,n4,h7,h8,⟨s1,q1⟩,⟨s2,q2⟩,s,k,l,d,r⟩=>
  exact⟨n.trans h0,bs,ba,bk,hd,L,u.trans h1,jH hv (fun k q=>g (o+1) _ k (by omega) (by omega) h1 q),x.trans h2,E.trans h6,n0,n1,n2,n3,n4,F.trans h7,H.trans h8,⟨s1,y.trans q1⟩,⟨s2,z.trans q2⟩,s,k,l,C.trans d,jH r (fun k q=>g (o+5) _ k (by omega) (by omega) d q)⟩
theorem D.At.kind {b:Fh Aj}{c:Cn}(h:D.At w B b o (V c))(d:o<=j)(m:j<o+9)(e:b[j]?=V v)(a:v.ownBlock=V k):B<=k/\∃c t,w.heap[k]?=V (Ae c t (0,0))/\(t=5\/t=185):=by
 have z:(∃v n l,b[o+1]?=V v/\w.ownsRow B 5 1 v n l)/\∃v n l,b[o+5]?=V v/\w.ownsRow B 185 2 v n l:=by
  match c,h with
  | .hd _,⟨d,m,h3,h4,p,ba,bk,h5,h6,h7,h8⟩=>
   obtain⟨y,g,i⟩:=h3.f;exact⟨⟨_,_,_,h6,h7⟩,_,_,_,g,i⟩
  | .bd _,⟨h0,bs,ba,bk,hd,L,d,hv,m,h6,n0,C,n2,n3,n4,h7,h8,⟨s1,q1⟩,⟨s2,q2⟩,y,k,l,g,i⟩=>exact⟨⟨_,_,_,d,hv⟩,_,_,_,g,i⟩
 obtain⟨⟨N,C,E,u,r⟩,Q,H,F,x,s⟩:=z;rcases h.two d m e a with rfl|rfl
 ·rw[u] at e;cases e
  obtain⟨c,q⟩:=qT r k a;exact⟨(An r k a).1,c,_,q,Ay rfl⟩
 ·rw[x] at e;cases e
  obtain⟨c,q⟩:=qT s k a;exact⟨(An s k a).1,c,_,q,Bf rfl⟩
structure D.YI (w:Ag) (yb B:Ad) (tv th:Aj) (y:Yd) (vd vc vs:Aj) (xs:A Aj):Prop where
 box:w.heap[yb]?=V (Ae #[tv,th,vd,vc,vs] 131 (0,0))
 dr:QRow w B 60 vd (y.draws.map drawV)
 con:w.ownsRow B 195 9 vc (Z y.conns) xs
 ev:w.ownsRow B 44 3 vs (Z y.sent) (evCells y.sent)
 at_:∀(m:Ad) (c:Br Cn),y.conns[m]?=V c->D.At w B xs.toArray (m*9) c
 apart:∀(i j:Ad) (ci cj:Cn),i≠j->y.conns[i]?=V (V ci)->y.conns[j]?=V (V cj)->∀a b u v k,i*9<=a->a<i*9+9->j*9<=b->b<j*9+9->xs[a]?=V u->xs[b]?=V v->u.ownBlock=V k->v.ownBlock≠V k
 low:B<=yb
def D.YF (yb:Ad)(vd vc vs:Aj)(xs:A Aj)(cn:A (Br Cn))(k:Ad):Prop:=k=yb\/vd.ownBlock=V k\/vc.ownBlock=V k\/vs.ownBlock=V k\/∃(m:Ad) (c:Cn) (j:Ad) (v:Aj),cn[m]?=V (V c)/\m*9<=j/\j<m*9+9/\xs[j]?=V v/\v.ownBlock=V k
structure D.Mv (w w':Ag) (F F':Ad->Prop):Prop where
 turn:Turn w w' F
 foot:∀k,F' k->F k\/w.heap.size<=k
theorem D.Mv.refl (w:Ag)(F:Ad->Prop):D.Mv w w F F:=⟨Turn.refl _ _,fun _ h=>Ay h⟩
theorem D.Mv.trans {x y:Ag}{F G H:Ad->Prop}(a:D.Mv w x F G)(b:D.Mv x y G H):D.Mv w y F H:=
 ⟨⟨b.turn.os.trans a.turn.os,b.turn.tape.trans a.turn.tape,b.turn.output.trans a.turn.output,Bi a.turn.size b.turn.size,fun k hk hn=>(b.turn.block k (Eh hk a.turn.size) (fun hG=>by
  rcases a.foot k hG with q|q
  ·exact hn q
  ·omega)).trans (a.turn.block k hk hn)⟩,fun k hk=>by
  rcases b.foot k hk with q|q
  ·exact a.foot k q
  ·exact Bf (Bi a.turn.size q)⟩
end Go.Proofs.YtfocdefchbnkpaaGreatDoor
