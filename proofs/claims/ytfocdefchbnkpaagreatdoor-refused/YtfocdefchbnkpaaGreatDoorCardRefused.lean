/- Refused, for all numbers. No condition but what the row lists (the library's tables as its text lays them). -/
import Derived.Test.YtfocdefchbnkpaaGreatDoorAli
import Derived.Test.YtfocdefchbnkpaaGreatDoorKeH
import Derived.Test.YtfocdefchbnkpaaGreatDoorCards
import Derived.Test.YtfocdefchbnkpaaGreatDoorTie
import Derived.Test.YtfocdefchbnkpaaGreatDoorCardA
import Derived.Test.YtfocdefchbnkpaaGreatDoorCardG
import Derived.Test.YtfocdefchbnkpaaGreatDoorCardK
import Derived.WalkKit
import Derived.ProofKit
import Derived.OpenShut
import Derived.Deep.DeepHandedRow
import Derived.Deep.Strs
import Derived.SevenTiedAt
import Derived.Carry
import Derived.JoinedCond
set_option maxRecDepth 100000
set_option maxHeartbeats 20000000
namespace Go.Proofs.YtfocdefchbnkpaaGreatDoor
open Go.ChangeShapes Go.WideShapes Go.ChangeAt Go.RowKit Go.Deep Go
theorem q9q {W:World}{base:Nat}{n:Int}(h:Value.okWide Tryz.prog W .any base 3 (.int .i64 n)):-9223372036854775808<=n/\n<=9223372036854775807:=by
 unfold Value.okWide at h
 simp only[Tryz.underlying3] at h
 unfold Cell.okWide Cell.ok at h
 simp only[Tryz.underlying3] at h
 have h2:=h.2
 unfold IntKind.has at h2
 have e1:IntKind.i64.min = -9223372036854775808:=by decide
 have e2:IntKind.i64.max=9223372036854775807:=by decide
 rw[e1,e2] at h2
 exact h2
theorem q35q:(Rows.refusedRow.wf (OpenSpec.ofChange (OpenSpec.ofChange Rows.refusedSpec).bare))=true:=by kernel_rfl
theorem q36q:(laidOutB Tryz.pinned.checked.prog)=true:=by kernel_rfl
theorem q37q:(mapsRowed Tryz.pinned.checked.prog)=true:=by kernel_rfl
theorem q38q:(Tryz.f9.params.all (Tryz.pinned.checked.prog.readableRec ·))=true:=by kernel_rfl
theorem q39q:(namedTie Tryz.pinned.checked.prog Rows.refusedRow.named (OpenSpec.ofChange Rows.refusedSpec).bare.vars)=true:=by kernel_rfl
theorem q40q:((Rows.refusedRow.stops == []))=true:=by kernel_rfl
theorem q41q:((Tryz.pinned.checked.prog.stops == []))=true:=by kernel_rfl
theorem q42q:((Rows.refusedRow.knobs == []))=true:=by kernel_rfl
theorem q43q:((Tryz.pinned.checked.prog.stopKnobs == []))=true:=by kernel_rfl
theorem q44q:((Rows.refusedRow.inPlace == Tryz.pinned.checked.prog.inPlace 9))=true:=by kernel_rfl
theorem q12q:((Rows.refusedRow.unfollowed == Tryz.pinned.checked.prog.unfollowed 9))=true:=by kernel_rfl
theorem q13q:((Rows.refusedRow.recurses == Tryz.pinned.checked.prog.recurses 9))=true:=by kernel_rfl
theorem q14q:((Rows.refusedRow.named == Tryz.pinned.checked.prog.varsNamed 9))=true:=by kernel_rfl
theorem q15q:((Rows.refusedRow.maps == (Tryz.f9.params.toList++(OpenSpec.ofChange Rows.refusedSpec).bare.plain.varTypes Tryz.pinned.checked.prog).any (Tryz.pinned.checked.prog.mapsRec ·)))=true:=by kernel_rfl
theorem q16q:((Rows.refusedRow.ifaces == (Tryz.f9.params.toList++(OpenSpec.ofChange Rows.refusedSpec).bare.plain.varTypes Tryz.pinned.checked.prog).any (Tryz.pinned.checked.prog.ifacesRec ·)))=true:=by kernel_rfl
theorem q17q:((Rows.refusedRow.mapsOut == Tryz.pinned.checked.prog.mapsAmong Tryz.f9.resultTypes.toList))=true:=by kernel_rfl
theorem q18q:((Rows.refusedRow.loops == (Tryz.f9.params.toList++(OpenSpec.ofChange Rows.refusedSpec).bare.plain.varTypes Tryz.pinned.checked.prog).any (Tryz.pinned.checked.prog.loopsFrom ·)))=true:=by kernel_rfl
theorem q19q:((Rows.refusedRow.wideKeys == (Tryz.f9.params.toList++(OpenSpec.ofChange Rows.refusedSpec).bare.plain.varTypes Tryz.pinned.checked.prog++Tryz.f9.resultTypes.toList).any (Tryz.pinned.checked.prog.wideKeysFrom ·)))=true:=by kernel_rfl
theorem q20q:((OpenSpec.ofChange Rows.refusedSpec).bare.vars.all (Tryz.pinned.checked.prog.varReadable ·))=true:=by kernel_rfl
theorem q21q:(Tryz.f9.resultTypes.all (fun t=>Tryz.pinned.checked.prog.readableRec t && decide (t<Tryz.pinned.checked.prog.types.size)))=true:=by kernel_rfl
theorem q22q:((Rows.refusedRow.ifacesOut == Tryz.f9.resultTypes.toList.any (Tryz.pinned.checked.prog.ifacesRec ·)))=true:=by kernel_rfl
theorem q23q:((Rows.refusedRow.loopsOut == Tryz.f9.resultTypes.toList.any (Tryz.pinned.checked.prog.loopsFrom ·)))=true:=by kernel_rfl
theorem q24q:((Rows.refusedRow.plainKeys == Tryz.pinned.checked.prog.plainKeys))=true:=by kernel_rfl
theorem q25q:(Rows.refusedRow.shortTexts.isNone)=true:=by kernel_rfl
theorem q26q:(Tryz.pinned.checked.prog.stopsHeard)=true:=by kernel_rfl
theorem q27q:(Tryz.pinned.checked.prog.mayEnter)=true:=by kernel_rfl
theorem q28q:((Rows.refusedRow.lifted == Tryz.pinned.checked.prog.liftsFinal))=true:=by kernel_rfl
theorem q29q:((Tryz.pinned.checked.prog.make == some Rows.refusedRow.make))=true:=by kernel_rfl
theorem q30q:((Rows.refusedRow.kinds == (if Rows.refusedRow.domain.isEmpty then [] else Tryz.f9.params.toList.map fun t=>match Tryz.pinned.checked.prog.underlying t with | some (.int k)=>some k | _=>none)))=true:=by kernel_rfl
theorem q31q:((Rows.refusedRow.pinned == Rows.refusedRow.pinnedBy))=true:=by kernel_rfl
theorem q32q:((Rows.refusedRow.veiled == (Tryz.f9.params.toList++(OpenSpec.ofChange Rows.refusedSpec).bare.plain.varTypes Tryz.pinned.checked.prog++Tryz.f9.resultTypes.toList).any (Tryz.pinned.checked.prog.veiledRec ·)))=true:=by kernel_rfl
theorem q33q:(Rows.refusedRow.veiledFits Tryz.pinned.checked.prog Tryz.f9.params.toList (Tryz.f9.params.toList++(OpenSpec.ofChange Rows.refusedSpec).bare.plain.varTypes Tryz.pinned.checked.prog++Tryz.f9.resultTypes.toList))=true:=by kernel_rfl
theorem qF {a b:Bool}(ha:a=true)(hb:b=true):(a && b)=true:=by rw[ha,hb];rfl
theorem q11q:joinedFacts Tryz.pinned.checked.prog 9 Tryz.f9 (OpenSpec.ofChange Rows.refusedSpec).bare Rows.refusedRow=true:=by
 unfold joinedFacts
 exact qF (qF (qF (qF (qF (qF (qF (qF (qF (qF (qF (qF (qF (qF (qF (qF (qF (qF (qF (qF (qF (qF (qF (qF (qF (qF (qF (qF (qF (qF (qF (q35q) q36q) q37q) q38q) q39q) q40q) q41q) q42q) q43q) q44q) q12q) q13q) q14q) q15q) q16q) q17q) q18q) q19q) q20q) q21q) q22q) q23q) q24q) q25q) q26q) q27q) q28q) q29q) q30q) q31q) q32q) q33q
theorem q5q (H:Type)(enc:TypeId×Value->H)(W:World)(base:Nat)(aa:Array Value)(ds gs:List (DataW H))(ai:List MemPlace)
  (ae:∀(j:Nat) t v,Tryz.f9.params[j]?=some t->aa[j]?=some v->Value.okWide Tryz.prog W .any base t v)
  (hW:DataW.Whole enc Tryz.prog Tryz.f9.params.toList Rows.refusedSpec.vars false W aa.toList ds gs ai) (hL:laidMetH Tryz.prog Rows.refusedRow.laid W) (ak:W.ShapedOpen Tryz.prog) :
  Calls Tryz.prog 9 aa W fun e W'=>∃v,e = .returned v/\Rows.refusedSpec.post enc Tryz.prog Tryz.f9 false true false false W aa v W':=by
 have ad:=hW
 obtain⟨p,q,aj,hV,rfl,al,am⟩:=hW
 have hA:DataW.TrodAll enc Tryz.prog W 0 (fun _=>true) true Tryz.f9.params.toList aa.toList ds p:=aj
 rw[Tryz.params9] at hA ae
 obtain⟨v0,v1,d0,d1,p0,p1,rfl,rfl,rfl,h0,h1⟩:=trodAll_two hA
 have ag:=ae 0 3 v0 rfl rfl
 have ah:=ae 1 3 v1 rfl rfl
 obtain⟨n,rfl⟩:=okWide_int Tryz.underlying3 ag
 obtain⟨m,rfl⟩:=okWide_int Tryz.underlying3 ah
 obtain⟨rfl,rfl⟩:=trodVars_none hV
 simp only[xn] at ad
 have af:∀x∈(p0++p1),x.block<W.heap.size:=fun x hx=>by simpa using ad.lt x hx
 have G:G3 W:=zoS hL ak
 refine(q48q G n m (q9q ag) (q9q ah)).mono fun e W' ⟨he,hg⟩=>?_
 subst he
 have ab:=zh6 hg
 exact⟨_,rfl,_,_,_,[],(p0++p1),[],ad,trodAll_mk1 (shut_bool Tryz.underlying4 _),(by
  have:=trodAll_mk2 (Below.trod zc0 (by kernel_rfl) (of_decide_eq_true (by kernel_rfl)) h0 ab (fun x hx=>af x (List.mem_append_left _ hx))) (Below.trod zc0 (by kernel_rfl) (of_decide_eq_true (by kernel_rfl)) h1 ab (fun x hx=>af x (List.mem_append_right _ hx)))
  exact this),rfl,ab.frame _,fun h=>by cases h⟩
theorem q46q (os:Os){H:Type}(enc:TypeId×Value->H):∃places,DataW.whole enc Tryz.prog ((World.laidAll Tryz.prog os Rows.plainsRow.laid).forCall (fun _ _=>0) ⟨#[],#[.int .i64 0,.int .i64 0],[]⟩).memory Tryz.f9.params.toList Rows.refusedSpec.vars false #[.int .i64 0,.int .i64 0].toList 8=some ([.lit (.int .i64 0),.lit (.int .i64 0)],[],places):=
 ⟨[],by kernel_rfl⟩
theorem q34q (os:Os)(af:os.Started)(H:Type)(enc:TypeId×Value->H)(F:Stop.Interp) :
  ReturnsInHanded {} Tryz.checked os 9 .any ((OpenSpec.ofChange Rows.refusedSpec).preRow enc Tryz.prog Tryz.f9 Rows.refusedRow.domain false Rows.refusedRow.laid) (((OpenSpec.ofChange Rows.refusedSpec).at F).post enc Tryz.prog Tryz.f9 false true false false):=by
 obtain⟨ag,hx⟩:=q46q os enc
 refine returnsInHanded_of_row (C:=Tryz.checked) (s:=OpenSpec.ofChange Rows.refusedSpec) zmA af (by kernel_rfl) Tryz.func9
  (ze6 (enc:=enc) (World.laidAll Tryz.prog os Rows.plainsRow.laid) #[.int .i64 0,.int .i64 0] (World.laidAll_os _ _ _) (ze7 os _) (by kernel_rfl)
   (OpenSpec.preRow_of_cond 8 hx (by kernel_rfl) (fun k hk=>by cases hk) (by kernel_rfl) (zmC os _))) ?_
 intro W base aa ds gs ab ae hW _ _ _ hL ad _
 exact q5q H enc W base aa ds gs ab ae hW hL ad
theorem q51q:Rows.RefusedSaid:=
 OpenClaim.holds_of_cond 9 Tryz.f9 rfl rfl rfl rfl rfl rfl rfl ⟨rfl,rfl,rfl,rfl,rfl⟩ rfl rfl rfl rfl rfl (by kernel_rfl) Tryz.func9 q11q
  (of_decide_eq_true (by kernel_rfl)) (by unfold Func.isWrapper;first | (rw[if_pos (by decide +kernel)];kernel_rfl) | (rw[if_neg (by decide +kernel)];exact⟨rfl,rfl⟩))
  (fun os started H enc _ F=>by rw[OpenClaim.pre_eq_preRow];exact q34q os started H enc F)
theorem q45q (f:FuncId)(fn:Func)(hf:Tryz.pinned.checked.prog.funcNamed "switchyard/switchyardkeep.Refused" = some f) (aa:Tryz.pinned.checked.prog.funcs[f]?=some fn) :
  true=Tryz.pinned.checked.prog.looks []/\∀(j:Nat) t,fn.params[j]?=some t->Tryz.pinned.checked.prog.wantsStandIn t=false:=by
 obtain rfl:f=9:=qk ((show Tryz.prog.funcNamed "switchyard/switchyardkeep.Refused" = some 9 by kernel_rfl).symm.trans hf) |>.symm
 obtain rfl:fn=Tryz.f9:=(qk (Tryz.func9.symm.trans aa)).symm
 refine⟨by kernel_rfl,fun j t ht=>?_⟩
 rw[Tryz.params9] at ht
 have hm:=Array.mem_of_getElem? ht
 have hw:∀t∈(#[3,3]:Array TypeId),Tryz.prog.wantsStandIn t=false:=by decide +kernel
 exact hw t hm
theorem refused_card:Rows.RefusedCardSaid:=
 Claim7.holds_tied_plain_at .later [] _ _ _ _ q51q (fun _ h=>by cases h) (by kernel_rfl) (fun _ h=>by cases h) refused_row_tie rfl ⟨rfl,rfl⟩ (by kernel_rfl) rfl q45q (zjU Rows.refusedRow rfl)
#print axioms refused_card
end Go.Proofs.YtfocdefchbnkpaaGreatDoor
