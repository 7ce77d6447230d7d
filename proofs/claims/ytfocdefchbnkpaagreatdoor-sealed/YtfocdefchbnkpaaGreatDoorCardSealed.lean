/- Sealed, for every text and all numbers. No condition but what the row lists (the library's tables as its text lays them). -/
import Derived.Test.YtfocdefchbnkpaaGreatDoorAli
import Derived.Test.YtfocdefchbnkpaaGreatDoorKeF
import Derived.Test.YtfocdefchbnkpaaGreatDoorCards
import Derived.Test.YtfocdefchbnkpaaGreatDoorTie
import Derived.Test.YtfocdefchbnkpaaGreatDoorCardA
import Derived.Test.YtfocdefchbnkpaaGreatDoorCardG
import Derived.Test.YtfocdefchbnkpaaGreatDoorCardK
import Derived.WalkKit
import Derived.ProofKit
import Derived.OpenShut
import Derived.Deep.DeepHandedRow
import Derived.Deep.Strs
import Derived.SevenTiedAt
import Derived.Carry
import Derived.JoinedCond
set_option maxRecDepth 100000
set_option maxHeartbeats 20000000
namespace Go.Proofs.YtfocdefchbnkpaaGreatDoor
open Go.ChangeShapes Go.WideShapes Go.ChangeAt Go.RowKit Go.Deep Go
theorem zeZ {W:World}{base:Nat}{s:ByteArray}(h:Value.okWide Tryz.prog W .any base 9 (.string s)):s.size<=maxLen:=by
 unfold Value.okWide at h
 simp only[Tryz.underlying9] at h
 unfold Cell.okWide Cell.ok at h
 simp only[Tryz.underlying9] at h
 have e:(IntKind.i64.max:Int)=(maxLen:Nat):=by decide
 omega
theorem q2q {W:World}{base:Nat}{n:Int}(h:Value.okWide Tryz.prog W .any base 3 (.int .i64 n)):-9223372036854775808<=n/\n<=9223372036854775807:=by
 unfold Value.okWide at h
 simp only[Tryz.underlying3] at h
 unfold Cell.okWide Cell.ok at h
 simp only[Tryz.underlying3] at h
 have h2:=h.2
 unfold IntKind.has at h2
 have e1:IntKind.i64.min = -9223372036854775808:=by decide
 have e2:IntKind.i64.max=9223372036854775807:=by decide
 rw[e1,e2] at h2
 exact h2
theorem q36q:(Rows.sealedRow.wf (OpenSpec.ofChange (OpenSpec.ofChange Rows.sealedSpec).bare))=true:=by kernel_rfl
theorem q37q:(laidOutB Tryz.pinned.checked.prog)=true:=by kernel_rfl
theorem q38q:(mapsRowed Tryz.pinned.checked.prog)=true:=by kernel_rfl
theorem q39q:(Tryz.f8.params.all (Tryz.pinned.checked.prog.readableRec ·))=true:=by kernel_rfl
theorem q40q:(namedTie Tryz.pinned.checked.prog Rows.sealedRow.named (OpenSpec.ofChange Rows.sealedSpec).bare.vars)=true:=by kernel_rfl
theorem q41q:((Rows.sealedRow.stops == []))=true:=by kernel_rfl
theorem q42q:((Tryz.pinned.checked.prog.stops == []))=true:=by kernel_rfl
theorem q43q:((Rows.sealedRow.knobs == []))=true:=by kernel_rfl
theorem q44q:((Tryz.pinned.checked.prog.stopKnobs == []))=true:=by kernel_rfl
theorem q45q:((Rows.sealedRow.inPlace == Tryz.pinned.checked.prog.inPlace 8))=true:=by kernel_rfl
theorem q10q:((Rows.sealedRow.unfollowed == Tryz.pinned.checked.prog.unfollowed 8))=true:=by kernel_rfl
theorem q11q:((Rows.sealedRow.recurses == Tryz.pinned.checked.prog.recurses 8))=true:=by kernel_rfl
theorem q12q:((Rows.sealedRow.named == Tryz.pinned.checked.prog.varsNamed 8))=true:=by kernel_rfl
theorem q13q:((Rows.sealedRow.maps == (Tryz.f8.params.toList++(OpenSpec.ofChange Rows.sealedSpec).bare.plain.varTypes Tryz.pinned.checked.prog).any (Tryz.pinned.checked.prog.mapsRec ·)))=true:=by kernel_rfl
theorem q14q:((Rows.sealedRow.ifaces == (Tryz.f8.params.toList++(OpenSpec.ofChange Rows.sealedSpec).bare.plain.varTypes Tryz.pinned.checked.prog).any (Tryz.pinned.checked.prog.ifacesRec ·)))=true:=by kernel_rfl
theorem q15q:((Rows.sealedRow.mapsOut == Tryz.pinned.checked.prog.mapsAmong Tryz.f8.resultTypes.toList))=true:=by kernel_rfl
theorem q16q:((Rows.sealedRow.loops == (Tryz.f8.params.toList++(OpenSpec.ofChange Rows.sealedSpec).bare.plain.varTypes Tryz.pinned.checked.prog).any (Tryz.pinned.checked.prog.loopsFrom ·)))=true:=by kernel_rfl
theorem q17q:((Rows.sealedRow.wideKeys == (Tryz.f8.params.toList++(OpenSpec.ofChange Rows.sealedSpec).bare.plain.varTypes Tryz.pinned.checked.prog++Tryz.f8.resultTypes.toList).any (Tryz.pinned.checked.prog.wideKeysFrom ·)))=true:=by kernel_rfl
theorem q18q:((OpenSpec.ofChange Rows.sealedSpec).bare.vars.all (Tryz.pinned.checked.prog.varReadable ·))=true:=by kernel_rfl
theorem q19q:(Tryz.f8.resultTypes.all (fun t=>Tryz.pinned.checked.prog.readableRec t && decide (t<Tryz.pinned.checked.prog.types.size)))=true:=by kernel_rfl
theorem q20q:((Rows.sealedRow.ifacesOut == Tryz.f8.resultTypes.toList.any (Tryz.pinned.checked.prog.ifacesRec ·)))=true:=by kernel_rfl
theorem q21q:((Rows.sealedRow.loopsOut == Tryz.f8.resultTypes.toList.any (Tryz.pinned.checked.prog.loopsFrom ·)))=true:=by kernel_rfl
theorem q22q:((Rows.sealedRow.plainKeys == Tryz.pinned.checked.prog.plainKeys))=true:=by kernel_rfl
theorem q23q:(Rows.sealedRow.shortTexts.isNone)=true:=by kernel_rfl
theorem q24q:(Tryz.pinned.checked.prog.stopsHeard)=true:=by kernel_rfl
theorem q25q:(Tryz.pinned.checked.prog.mayEnter)=true:=by kernel_rfl
theorem q26q:((Rows.sealedRow.lifted == Tryz.pinned.checked.prog.liftsFinal))=true:=by kernel_rfl
theorem q27q:((Tryz.pinned.checked.prog.make == some Rows.sealedRow.make))=true:=by kernel_rfl
theorem q28q:((Rows.sealedRow.kinds == (if Rows.sealedRow.domain.isEmpty then [] else Tryz.f8.params.toList.map fun t=>match Tryz.pinned.checked.prog.underlying t with | some (.int k)=>some k | _=>none)))=true:=by kernel_rfl
theorem q29q:((Rows.sealedRow.pinned == Rows.sealedRow.pinnedBy))=true:=by kernel_rfl
theorem q30q:((Rows.sealedRow.veiled == (Tryz.f8.params.toList++(OpenSpec.ofChange Rows.sealedSpec).bare.plain.varTypes Tryz.pinned.checked.prog++Tryz.f8.resultTypes.toList).any (Tryz.pinned.checked.prog.veiledRec ·)))=true:=by kernel_rfl
theorem q31q:(Rows.sealedRow.veiledFits Tryz.pinned.checked.prog Tryz.f8.params.toList (Tryz.f8.params.toList++(OpenSpec.ofChange Rows.sealedSpec).bare.plain.varTypes Tryz.pinned.checked.prog++Tryz.f8.resultTypes.toList))=true:=by kernel_rfl
theorem qF {a b:Bool}(ha:a=true)(hb:b=true):(a && b)=true:=by rw[ha,hb];rfl
theorem q9q:joinedFacts Tryz.pinned.checked.prog 8 Tryz.f8 (OpenSpec.ofChange Rows.sealedSpec).bare Rows.sealedRow=true:=by
 unfold joinedFacts
 exact qF (qF (qF (qF (qF (qF (qF (qF (qF (qF (qF (qF (qF (qF (qF (qF (qF (qF (qF (qF (qF (qF (qF (qF (qF (qF (qF (qF (qF (qF (qF (q36q) q37q) q38q) q39q) q40q) q41q) q42q) q43q) q44q) q45q) q10q) q11q) q12q) q13q) q14q) q15q) q16q) q17q) q18q) q19q) q20q) q21q) q22q) q23q) q24q) q25q) q26q) q27q) q28q) q29q) q30q) q31q
theorem q6q (H:Type)(enc:TypeId×Value->H)(W:World)(base:Nat)(aa:Array Value)(ds gs:List (DataW H))(ak:List MemPlace)
  (ad:∀(j:Nat) t v,Tryz.f8.params[j]?=some t->aa[j]?=some v->Value.okWide Tryz.prog W .any base t v)
  (hW:DataW.Whole enc Tryz.prog Tryz.f8.params.toList Rows.sealedSpec.vars false W aa.toList ds gs ak) (hL:laidMetH Tryz.prog Rows.sealedRow.laid W) (am:W.ShapedOpen Tryz.prog) :
  Calls Tryz.prog 8 aa W fun e W'=>∃v,e = .returned v/\Rows.sealedSpec.post enc Tryz.prog Tryz.f8 false true false false W aa v W':=by
 have af:=hW
 obtain⟨p,q,al,hV,rfl,an,ao⟩:=hW
 have hA:DataW.TrodAll enc Tryz.prog W 0 (fun _=>true) true Tryz.f8.params.toList aa.toList ds p:=al
 rw[Tryz.params8] at hA ad
 obtain⟨v0,v1,v2,v3,d0,d1,d2,d3,p0,p1,p2,p3,rfl,rfl,rfl,h0,h1,h2,h3⟩:=trodAll_four hA
 have ag:=ad 0 9 v0 rfl rfl
 have ah:=ad 1 3 v1 rfl rfl
 have ai:=ad 2 3 v2 rfl rfl
 have aj:=ad 3 3 v3 rfl rfl
 obtain⟨s,rfl⟩:=okWide_string Tryz.underlying9 ag
 obtain⟨n,rfl⟩:=okWide_int Tryz.underlying3 ah
 obtain⟨m,rfl⟩:=okWide_int Tryz.underlying3 ai
 obtain⟨c,rfl⟩:=okWide_int Tryz.underlying3 aj
 obtain⟨rfl,rfl⟩:=trodVars_none hV
 simp only[xn,xY] at af
 have ae:∀x∈(p0++(p1++(p2++p3))),x.block<W.heap.size:=fun x hx=>by simpa using af.lt x hx
 have G:G3 W:=zoS hL am
 refine(q49q G s (zeZ ag) n m c (q2q ah) (q2q ai) (q2q aj)).mono fun e W' ⟨he,hg⟩=>?_
 subst he
 have ab:=zh6 hg
 exact⟨_,rfl,_,_,_,[],(p0++(p1++(p2++p3))),[],af,trodAll_mk1 (shut_bool Tryz.underlying4 _),(by
  have:=trodAll_mk4 (Below.trod zc0 (by kernel_rfl) (of_decide_eq_true (by kernel_rfl)) h0 ab (fun x hx=>ae x (by simp[hx]))) (Below.trod zc0 (by kernel_rfl) (of_decide_eq_true (by kernel_rfl)) h1 ab (fun x hx=>ae x (by simp[hx]))) (Below.trod zc0 (by kernel_rfl) (of_decide_eq_true (by kernel_rfl)) h2 ab (fun x hx=>ae x (by simp[hx]))) (Below.trod zc0 (by kernel_rfl) (of_decide_eq_true (by kernel_rfl)) h3 ab (fun x hx=>ae x (by simp[hx])))
  exact this),rfl,ab.frame _,fun h=>by cases h⟩
theorem q47q (os:Os){H:Type}(enc:TypeId×Value->H):∃places,DataW.whole enc Tryz.prog ((World.laidAll Tryz.prog os Rows.plainsRow.laid).forCall (fun _ _=>0) ⟨#[],#[.string ⟨#[]⟩,.int .i64 0,.int .i64 0,.int .i64 0],[]⟩).memory Tryz.f8.params.toList Rows.sealedSpec.vars false #[.string ⟨#[]⟩,.int .i64 0,.int .i64 0,.int .i64 0].toList 8=some ([.lit (.string []),.lit (.int .i64 0),.lit (.int .i64 0),.lit (.int .i64 0)],[],places):=
 ⟨[],by kernel_rfl⟩
theorem q32q (os:Os)(af:os.Started)(H:Type)(enc:TypeId×Value->H)(F:Stop.Interp) :
  ReturnsInHanded {} Tryz.checked os 8 .any ((OpenSpec.ofChange Rows.sealedSpec).preRow enc Tryz.prog Tryz.f8 Rows.sealedRow.domain false Rows.sealedRow.laid) (((OpenSpec.ofChange Rows.sealedSpec).at F).post enc Tryz.prog Tryz.f8 false true false false):=by
 obtain⟨ag,hx⟩:=q47q os enc
 refine returnsInHanded_of_row (C:=Tryz.checked) (s:=OpenSpec.ofChange Rows.sealedSpec) zmA af (by kernel_rfl) Tryz.func8
  (ze6 (enc:=enc) (World.laidAll Tryz.prog os Rows.plainsRow.laid) #[.string ⟨#[]⟩,.int .i64 0,.int .i64 0,.int .i64 0] (World.laidAll_os _ _ _) (ze7 os _) (by kernel_rfl)
   (OpenSpec.preRow_of_cond 8 hx (by kernel_rfl) (fun k hk=>by cases hk) (by kernel_rfl) (zmC os _))) ?_
 intro W base aa ds gs ab ae hW _ _ _ hL ad _
 exact q6q H enc W base aa ds gs ab ae hW hL ad
theorem q52q:Rows.SealedSaid:=
 OpenClaim.holds_of_cond 8 Tryz.f8 rfl rfl rfl rfl rfl rfl rfl ⟨rfl,rfl,rfl,rfl,rfl⟩ rfl rfl rfl rfl rfl (by kernel_rfl) Tryz.func8 q9q
  (of_decide_eq_true (by kernel_rfl)) (by unfold Func.isWrapper;first | (rw[if_pos (by decide +kernel)];kernel_rfl) | (rw[if_neg (by decide +kernel)];exact⟨rfl,rfl⟩))
  (fun os started H enc _ F=>by rw[OpenClaim.pre_eq_preRow];exact q32q os started H enc F)
theorem q46q (f:FuncId)(fn:Func)(hf:Tryz.pinned.checked.prog.funcNamed "switchyard/switchyardkeep.Sealed" = some f) (aa:Tryz.pinned.checked.prog.funcs[f]?=some fn) :
  true=Tryz.pinned.checked.prog.looks []/\∀(j:Nat) t,fn.params[j]?=some t->Tryz.pinned.checked.prog.wantsStandIn t=false:=by
 obtain rfl:f=8:=qk ((show Tryz.prog.funcNamed "switchyard/switchyardkeep.Sealed" = some 8 by kernel_rfl).symm.trans hf) |>.symm
 obtain rfl:fn=Tryz.f8:=(qk (Tryz.func8.symm.trans aa)).symm
 refine⟨by kernel_rfl,fun j t ht=>?_⟩
 rw[Tryz.params8] at ht
 have hm:=Array.mem_of_getElem? ht
 have hw:∀t∈(#[9,3,3,3]:Array TypeId),Tryz.prog.wantsStandIn t=false:=by decide +kernel
 exact hw t hm
theorem sealed_card:Rows.SealedCardSaid:=
 Claim7.holds_tied_plain_at .later [] _ _ _ _ q52q (fun _ h=>by cases h) (by kernel_rfl) (fun _ h=>by cases h) sealed_row_tie rfl ⟨rfl,rfl⟩ (by kernel_rfl) rfl q46q (zjU Rows.sealedRow rfl)
#print axioms sealed_card
end Go.Proofs.YtfocdefchbnkpaaGreatDoor
