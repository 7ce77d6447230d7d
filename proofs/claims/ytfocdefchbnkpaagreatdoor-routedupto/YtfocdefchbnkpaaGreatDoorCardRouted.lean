/- Routed, for all requests and cuts whose reading is of bulk at most 1048576: each request goes where the policy says, in its order, with its body, in whatever pieces the bytes come. Conditions: that bound, and what the row lists (the library's tables as its text lays them). -/
import Derived.Test.YtfocdefchbnkpaaGreatDoorAli
import Derived.Test.YtfocdefchbnkpaaGreatDoorOpB
import Derived.Test.YtfocdefchbnkpaaGreatDoorCards
import Derived.Test.YtfocdefchbnkpaaGreatDoorTie
import Derived.Test.YtfocdefchbnkpaaGreatDoorCardA
import Derived.Test.YtfocdefchbnkpaaGreatDoorCardG
import Derived.Test.YtfocdefchbnkpaaGreatDoorCardK
import Derived.WalkKit
import Derived.ProofKit
import Derived.OpenShut
import Derived.Deep.DeepHandedRow
import Derived.Deep.Strs
import Derived.ChangeSlices
import Derived.SevenTiedAt
import Derived.Carry
import Derived.JoinedCond
set_option maxRecDepth 100000
set_option maxHeartbeats 20000000
namespace Go.Proofs.YtfocdefchbnkpaaGreatDoor
open Go.ChangeShapes Go.WideShapes Go.ChangeAt Go.RowKit Go.Deep Go
theorem q41q:(Rows.routedUptoRow.wf (OpenSpec.ofChange (Rows.OpenSpec.upto Rows.routedSpec).bare))=true:=by kernel_rfl
theorem q42q:(laidOutB Tryz.pinned.checked.prog)=true:=by kernel_rfl
theorem q43q:(mapsRowed Tryz.pinned.checked.prog)=true:=by kernel_rfl
theorem q44q:(Tryz.f10.params.all (Tryz.pinned.checked.prog.readableRec ·))=true:=by kernel_rfl
theorem q45q:(namedTie Tryz.pinned.checked.prog Rows.routedUptoRow.named (Rows.OpenSpec.upto Rows.routedSpec).bare.vars)=true:=by kernel_rfl
theorem q46q:((Rows.routedUptoRow.stops == []))=true:=by kernel_rfl
theorem q47q:((Tryz.pinned.checked.prog.stops == []))=true:=by kernel_rfl
theorem q48q:((Rows.routedUptoRow.knobs == []))=true:=by kernel_rfl
theorem q49q:((Tryz.pinned.checked.prog.stopKnobs == []))=true:=by kernel_rfl
theorem q50q:((Rows.routedUptoRow.inPlace == Tryz.pinned.checked.prog.inPlace 10))=true:=by kernel_rfl
theorem q16q:((Rows.routedUptoRow.unfollowed == Tryz.pinned.checked.prog.unfollowed 10))=true:=by kernel_rfl
theorem q17q:((Rows.routedUptoRow.recurses == Tryz.pinned.checked.prog.recurses 10))=true:=by kernel_rfl
theorem q18q:((Rows.routedUptoRow.named == Tryz.pinned.checked.prog.varsNamed 10))=true:=by kernel_rfl
theorem q19q:((Rows.routedUptoRow.maps == (Tryz.f10.params.toList++(Rows.OpenSpec.upto Rows.routedSpec).bare.plain.varTypes Tryz.pinned.checked.prog).any (Tryz.pinned.checked.prog.mapsRec ·)))=true:=by kernel_rfl
theorem q20q:((Rows.routedUptoRow.ifaces == (Tryz.f10.params.toList++(Rows.OpenSpec.upto Rows.routedSpec).bare.plain.varTypes Tryz.pinned.checked.prog).any (Tryz.pinned.checked.prog.ifacesRec ·)))=true:=by kernel_rfl
theorem q21q:((Rows.routedUptoRow.mapsOut == Tryz.pinned.checked.prog.mapsAmong Tryz.f10.resultTypes.toList))=true:=by kernel_rfl
theorem q22q:((Rows.routedUptoRow.loops == (Tryz.f10.params.toList++(Rows.OpenSpec.upto Rows.routedSpec).bare.plain.varTypes Tryz.pinned.checked.prog).any (Tryz.pinned.checked.prog.loopsFrom ·)))=true:=by kernel_rfl
theorem q23q:((Rows.routedUptoRow.wideKeys == (Tryz.f10.params.toList++(Rows.OpenSpec.upto Rows.routedSpec).bare.plain.varTypes Tryz.pinned.checked.prog++Tryz.f10.resultTypes.toList).any (Tryz.pinned.checked.prog.wideKeysFrom ·)))=true:=by kernel_rfl
theorem q24q:((Rows.OpenSpec.upto Rows.routedSpec).bare.vars.all (Tryz.pinned.checked.prog.varReadable ·))=true:=by kernel_rfl
theorem q25q:(Tryz.f10.resultTypes.all (fun t=>Tryz.pinned.checked.prog.readableRec t && decide (t<Tryz.pinned.checked.prog.types.size)))=true:=by kernel_rfl
theorem q26q:((Rows.routedUptoRow.ifacesOut == Tryz.f10.resultTypes.toList.any (Tryz.pinned.checked.prog.ifacesRec ·)))=true:=by kernel_rfl
theorem q27q:((Rows.routedUptoRow.loopsOut == Tryz.f10.resultTypes.toList.any (Tryz.pinned.checked.prog.loopsFrom ·)))=true:=by kernel_rfl
theorem q28q:((Rows.routedUptoRow.plainKeys == Tryz.pinned.checked.prog.plainKeys))=true:=by kernel_rfl
theorem q29q:(Rows.routedUptoRow.shortTexts.isNone)=true:=by kernel_rfl
theorem q30q:(Tryz.pinned.checked.prog.stopsHeard)=true:=by kernel_rfl
theorem q31q:(Tryz.pinned.checked.prog.mayEnter)=true:=by kernel_rfl
theorem q32q:((Rows.routedUptoRow.lifted == Tryz.pinned.checked.prog.liftsFinal))=true:=by kernel_rfl
theorem q33q:((Tryz.pinned.checked.prog.make == some Rows.routedUptoRow.make))=true:=by kernel_rfl
theorem ub:((Rows.routedUptoRow.kinds == (if Rows.routedUptoRow.domain.isEmpty then [] else Tryz.f10.params.toList.map fun t=>match Tryz.pinned.checked.prog.underlying t with | some (.int k)=>some k | _=>none)))=true:=by kernel_rfl
theorem q34q:((Rows.routedUptoRow.pinned == Rows.routedUptoRow.pinnedBy))=true:=by kernel_rfl
theorem q35q:((Rows.routedUptoRow.veiled == (Tryz.f10.params.toList++(Rows.OpenSpec.upto Rows.routedSpec).bare.plain.varTypes Tryz.pinned.checked.prog++Tryz.f10.resultTypes.toList).any (Tryz.pinned.checked.prog.veiledRec ·)))=true:=by kernel_rfl
theorem q36q:(Rows.routedUptoRow.veiledFits Tryz.pinned.checked.prog Tryz.f10.params.toList (Tryz.f10.params.toList++(Rows.OpenSpec.upto Rows.routedSpec).bare.plain.varTypes Tryz.pinned.checked.prog++Tryz.f10.resultTypes.toList))=true:=by kernel_rfl
theorem qF {a b:Bool}(ha:a=true)(hb:b=true):(a && b)=true:=by rw[ha,hb];rfl
theorem q15q:joinedFacts Tryz.pinned.checked.prog 10 Tryz.f10 (Rows.OpenSpec.upto Rows.routedSpec).bare Rows.routedUptoRow=true:=by
 unfold joinedFacts
 exact qF (qF (qF (qF (qF (qF (qF (qF (qF (qF (qF (qF (qF (qF (qF (qF (qF (qF (qF (qF (qF (qF (qF (qF (qF (qF (qF (qF (qF (qF (qF (q41q) q42q) q43q) q44q) q45q) q46q) q47q) q48q) q49q) q50q) q16q) q17q) q18q) q19q) q20q) q21q) q22q) q23q) q24q) q25q) q26q) q27q) q28q) q29q) q30q) q31q) q32q) q33q) ub) q34q) q35q) q36q
theorem q11q (H:Type)(enc:TypeId×Value->H)(W:World)(base:Nat)(aa:Array Value)(ds gs:List (DataW H))(ah:List MemPlace)
  (ae:∀(j:Nat) t v,Tryz.f10.params[j]?=some t->aa[j]?=some v->Value.okWide Tryz.prog W .any base t v)
  (hW:DataW.Whole enc Tryz.prog Tryz.f10.params.toList Rows.routedSpec.vars false W aa.toList ds gs ah) (hk:Rows.uptoSmall H (ds++gs)=true) (hL:laidMetH Tryz.prog Rows.routedUptoRow.laid W) (ap:W.ShapedOpen Tryz.prog) :
  Calls Tryz.prog 10 aa W fun e W'=>∃v,e = .returned v/\Rows.routedSpec.post enc Tryz.prog Tryz.f10 false true false false W aa v W':=by
 have ad:=hW
 obtain⟨p,q,am,hV,rfl,ax,ay⟩:=hW
 have hA:DataW.TrodAll enc Tryz.prog W 0 (fun _=>true) true Tryz.f10.params.toList aa.toList ds p:=am
 rw[Tryz.params10] at hA ae
 obtain⟨v0,v1,d0,d1,p0,p1,rfl,rfl,rfl,h0,h1⟩:=trodAll_two hA
 have aq:=ae 0 54 v0 rfl rfl
 have ar:=ae 1 55 v1 rfl rfl
 obtain⟨a0,az,ai,rfl⟩:=okWide_slice Tryz.underlying54 aq
 obtain⟨a1,aA,aj,rfl⟩:=okWide_slice Tryz.underlying55 ar
 have ak:=h0
 have al:=h1
 obtain⟨av,hf⟩:=ak
 obtain⟨aw,an⟩:=al
 have af:Rows.uptoBulk d0<=1048576/\Rows.uptoBulk d1<=1048576:=by
  have h:=of_decide_eq_true hk
  simp only[List.cons_append,List.nil_append,Rows.uptoBulkAll] at h
  omega
 obtain⟨qs,rfl,ao,hn⟩:=q98q hf af.1
 obtain⟨zs,rfl,au,hm⟩:=q99q an af.2
 obtain⟨rfl,rfl⟩:=trodVars_none hV
 simp only[xn] at ad
 have ag:∀x∈(p0++p1),x.block<W.heap.size:=fun x hx=>by simpa using ad.lt x hx
 have G:G3 W:=zoS hL ap
 refine(q75q G a0 a1 ai aj qs zs ao au hn hm).mono fun e W' ⟨he,hg⟩=>?_
 subst he
 have ab:=zh6 hg
 exact⟨_,rfl,_,_,_,[],(p0++p1),[],ad,trodAll_mk1 (shut_bool Tryz.underlying4 _),(by
  have:=trodAll_mk2 (Below.trod zc0 (by kernel_rfl) (of_decide_eq_true (by kernel_rfl)) h0 ab (fun x hx=>ag x (List.mem_append_left _ hx))) (Below.trod zc0 (by kernel_rfl) (of_decide_eq_true (by kernel_rfl)) h1 ab (fun x hx=>ag x (List.mem_append_right _ hx)))
  exact this),rfl,ab.frame _,fun h=>by cases h⟩
theorem q52q (os:Os){H:Type}(enc:TypeId×Value->H):∃places,DataW.whole enc Tryz.prog ((World.laidAll Tryz.prog os Rows.plainsRow.laid).forCall (fun _ _=>0) ⟨#[],#[.slice none 0 0,.slice none 0 0],[]⟩).memory Tryz.f10.params.toList Rows.routedSpec.vars false #[.slice none 0 0,.slice none 0 0].toList 8=some ([.nil,.nil],[],places):=
 ⟨[],by kernel_rfl⟩
theorem q37q (os:Os)(ag:os.Started)(H:Type)(enc:TypeId×Value->H)(F:Stop.Interp) :
  ReturnsInHanded {} Tryz.checked os 10 .any ((Rows.OpenSpec.upto Rows.routedSpec).preRow enc Tryz.prog Tryz.f10 Rows.routedUptoRow.domain false Rows.routedUptoRow.laid) (((Rows.OpenSpec.upto Rows.routedSpec).at F).post enc Tryz.prog Tryz.f10 false true false false):=by
 obtain⟨ah,hx⟩:=q52q os enc
 refine returnsInHanded_of_row (C:=Tryz.checked) (s:=Rows.OpenSpec.upto Rows.routedSpec) zmA ag (by kernel_rfl) Tryz.func10
  (ze6 (enc:=enc) (World.laidAll Tryz.prog os Rows.plainsRow.laid) #[.slice none 0 0,.slice none 0 0] (World.laidAll_os _ _ _) (ze7 os _) (by kernel_rfl)
   (OpenSpec.preRow_of_cond 8 hx (by kernel_rfl) (fun k hk=>by cases hk;kernel_rfl) (by kernel_rfl) (zmC os _))) ?_
 intro W base aa ds gs ab af hW _ ad _ hL ae _
 exact q11q H enc W base aa ds gs ab af hW (ad _ rfl) hL ae
theorem q55q:Rows.RoutedUptoSaid:=
 OpenClaim.holds_of_cond 10 Tryz.f10 rfl rfl rfl rfl rfl rfl rfl ⟨rfl,rfl,rfl,rfl,rfl⟩ rfl rfl rfl rfl rfl (by kernel_rfl) Tryz.func10 q15q
  (of_decide_eq_true (by kernel_rfl)) (by unfold Func.isWrapper;first | (rw[if_pos (by decide +kernel)];kernel_rfl) | (rw[if_neg (by decide +kernel)];exact⟨rfl,rfl⟩))
  (fun os started H enc _ F=>by rw[OpenClaim.pre_eq_preRow];exact q37q os started H enc F)
theorem q51q (f:FuncId)(fn:Func)(hf:Tryz.pinned.checked.prog.funcNamed "switchyard/switchyardkeep.Routed" = some f) (aa:Tryz.pinned.checked.prog.funcs[f]?=some fn) :
  true=Tryz.pinned.checked.prog.looks []/\∀(j:Nat) t,fn.params[j]?=some t->Tryz.pinned.checked.prog.wantsStandIn t=false:=by
 obtain rfl:f=10:=qk ((show Tryz.prog.funcNamed "switchyard/switchyardkeep.Routed" = some 10 by kernel_rfl).symm.trans hf) |>.symm
 obtain rfl:fn=Tryz.f10:=(qk (Tryz.func10.symm.trans aa)).symm
 refine⟨by kernel_rfl,fun j t ht=>?_⟩
 rw[Tryz.params10] at ht
 have hm:=Array.mem_of_getElem? ht
 have hw:∀t∈(#[54,55]:Array TypeId),Tryz.prog.wantsStandIn t=false:=by decide +kernel
 exact hw t hm
theorem routedUpto_card:Rows.RoutedUptoCardSaid:=
 Claim7.holds_tied_plain_at .later [] _ _ _ _ q55q (fun _ h=>by cases h) (by kernel_rfl) (fun _ h=>by cases h) routedUpto_row_tie rfl ⟨rfl,rfl⟩ (by kernel_rfl) rfl q51q (zjU Rows.routedUptoRow rfl)
#print axioms routedUpto_card
end Go.Proofs.YtfocdefchbnkpaaGreatDoor
