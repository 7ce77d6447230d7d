/- Again, for every text. No condition but what the row lists (the library's tables as its text lays them). -/
import Derived.Test.YtfocdefchbnkpaaGreatDoorAli
import Derived.Test.YtfocdefchbnkpaaGreatDoorKeA
import Derived.Test.YtfocdefchbnkpaaGreatDoorCards
import Derived.Test.YtfocdefchbnkpaaGreatDoorTie
import Derived.Test.YtfocdefchbnkpaaGreatDoorCardA
import Derived.Test.YtfocdefchbnkpaaGreatDoorCardG
import Derived.Test.YtfocdefchbnkpaaGreatDoorCardK
import Derived.WalkKit
import Derived.ProofKit
import Derived.OpenShut
import Derived.Deep.DeepHandedRow
import Derived.Deep.Strs
import Derived.SevenTiedAt
import Derived.Carry
import Derived.JoinedCond
set_option maxRecDepth 100000
set_option maxHeartbeats 20000000
namespace Go.Proofs.YtfocdefchbnkpaaGreatDoor
open Go.ChangeShapes Go.WideShapes Go.ChangeAt Go.RowKit Go.Deep Go
theorem zeZ {W:World}{base:Nat}{s:ByteArray}(h:Value.okWide Tryz.prog W .any base 9 (.string s)):s.size<=maxLen:=by
 unfold Value.okWide at h
 simp only[Tryz.underlying9] at h
 unfold Cell.okWide Cell.ok at h
 simp only[Tryz.underlying9] at h
 have e:(IntKind.i64.max:Int)=(maxLen:Nat):=by decide
 omega
theorem zdQ:(Rows.againRow.wf (OpenSpec.ofChange (OpenSpec.ofChange Rows.againSpec).bare))=true:=by kernel_rfl
theorem zdR:(laidOutB Tryz.pinned.checked.prog)=true:=by kernel_rfl
theorem zdS:(mapsRowed Tryz.pinned.checked.prog)=true:=by kernel_rfl
theorem zdT:(Tryz.f7.params.all (Tryz.pinned.checked.prog.readableRec ·))=true:=by kernel_rfl
theorem zdU:(namedTie Tryz.pinned.checked.prog Rows.againRow.named (OpenSpec.ofChange Rows.againSpec).bare.vars)=true:=by kernel_rfl
theorem zdV:((Rows.againRow.stops == []))=true:=by kernel_rfl
theorem zdW:((Tryz.pinned.checked.prog.stops == []))=true:=by kernel_rfl
theorem zdX:((Rows.againRow.knobs == []))=true:=by kernel_rfl
theorem zdY:((Tryz.pinned.checked.prog.stopKnobs == []))=true:=by kernel_rfl
theorem zdZ:((Rows.againRow.inPlace == Tryz.pinned.checked.prog.inPlace 7))=true:=by kernel_rfl
theorem zbD:((Rows.againRow.unfollowed == Tryz.pinned.checked.prog.unfollowed 7))=true:=by kernel_rfl
theorem zbE:((Rows.againRow.recurses == Tryz.pinned.checked.prog.recurses 7))=true:=by kernel_rfl
theorem zbF:((Rows.againRow.named == Tryz.pinned.checked.prog.varsNamed 7))=true:=by kernel_rfl
theorem zbG:((Rows.againRow.maps == (Tryz.f7.params.toList++(OpenSpec.ofChange Rows.againSpec).bare.plain.varTypes Tryz.pinned.checked.prog).any (Tryz.pinned.checked.prog.mapsRec ·)))=true:=by kernel_rfl
theorem zbH:((Rows.againRow.ifaces == (Tryz.f7.params.toList++(OpenSpec.ofChange Rows.againSpec).bare.plain.varTypes Tryz.pinned.checked.prog).any (Tryz.pinned.checked.prog.ifacesRec ·)))=true:=by kernel_rfl
theorem zbI:((Rows.againRow.mapsOut == Tryz.pinned.checked.prog.mapsAmong Tryz.f7.resultTypes.toList))=true:=by kernel_rfl
theorem zbJ:((Rows.againRow.loops == (Tryz.f7.params.toList++(OpenSpec.ofChange Rows.againSpec).bare.plain.varTypes Tryz.pinned.checked.prog).any (Tryz.pinned.checked.prog.loopsFrom ·)))=true:=by kernel_rfl
theorem zbK:((Rows.againRow.wideKeys == (Tryz.f7.params.toList++(OpenSpec.ofChange Rows.againSpec).bare.plain.varTypes Tryz.pinned.checked.prog++Tryz.f7.resultTypes.toList).any (Tryz.pinned.checked.prog.wideKeysFrom ·)))=true:=by kernel_rfl
theorem zbL:((OpenSpec.ofChange Rows.againSpec).bare.vars.all (Tryz.pinned.checked.prog.varReadable ·))=true:=by kernel_rfl
theorem zbM:(Tryz.f7.resultTypes.all (fun t=>Tryz.pinned.checked.prog.readableRec t && decide (t<Tryz.pinned.checked.prog.types.size)))=true:=by kernel_rfl
theorem zbN:((Rows.againRow.ifacesOut == Tryz.f7.resultTypes.toList.any (Tryz.pinned.checked.prog.ifacesRec ·)))=true:=by kernel_rfl
theorem zbO:((Rows.againRow.loopsOut == Tryz.f7.resultTypes.toList.any (Tryz.pinned.checked.prog.loopsFrom ·)))=true:=by kernel_rfl
theorem zbP:((Rows.againRow.plainKeys == Tryz.pinned.checked.prog.plainKeys))=true:=by kernel_rfl
theorem zbQ:(Rows.againRow.shortTexts.isNone)=true:=by kernel_rfl
theorem zbR:(Tryz.pinned.checked.prog.stopsHeard)=true:=by kernel_rfl
theorem zbS:(Tryz.pinned.checked.prog.mayEnter)=true:=by kernel_rfl
theorem zbT:((Rows.againRow.lifted == Tryz.pinned.checked.prog.liftsFinal))=true:=by kernel_rfl
theorem zbU:((Tryz.pinned.checked.prog.make == some Rows.againRow.make))=true:=by kernel_rfl
theorem zbV:((Rows.againRow.kinds == (if Rows.againRow.domain.isEmpty then [] else Tryz.f7.params.toList.map fun t=>match Tryz.pinned.checked.prog.underlying t with | some (.int k)=>some k | _=>none)))=true:=by kernel_rfl
theorem zbW:((Rows.againRow.pinned == Rows.againRow.pinnedBy))=true:=by kernel_rfl
theorem zbX:((Rows.againRow.veiled == (Tryz.f7.params.toList++(OpenSpec.ofChange Rows.againSpec).bare.plain.varTypes Tryz.pinned.checked.prog++Tryz.f7.resultTypes.toList).any (Tryz.pinned.checked.prog.veiledRec ·)))=true:=by kernel_rfl
theorem zbY:(Rows.againRow.veiledFits Tryz.pinned.checked.prog Tryz.f7.params.toList (Tryz.f7.params.toList++(OpenSpec.ofChange Rows.againSpec).bare.plain.varTypes Tryz.pinned.checked.prog++Tryz.f7.resultTypes.toList))=true:=by kernel_rfl
theorem qF {a b:Bool}(ha:a=true)(hb:b=true):(a && b)=true:=by rw[ha,hb];rfl
theorem zbC:joinedFacts Tryz.pinned.checked.prog 7 Tryz.f7 (OpenSpec.ofChange Rows.againSpec).bare Rows.againRow=true:=by
 unfold joinedFacts
 exact qF (qF (qF (qF (qF (qF (qF (qF (qF (qF (qF (qF (qF (qF (qF (qF (qF (qF (qF (qF (qF (qF (qF (qF (qF (qF (qF (qF (qF (qF (qF (zdQ) zdR) zdS) zdT) zdU) zdV) zdW) zdX) zdY) zdZ) zbD) zbE) zbF) zbG) zbH) zbI) zbJ) zbK) zbL) zbM) zbN) zbO) zbP) zbQ) zbR) zbS) zbT) zbU) zbV) zbW) zbX) zbY
theorem fM (H:Type)(enc:TypeId×Value->H)(W:World)(base:Nat)(aa:Array Value)(ds gs:List (DataW H))(ag:List MemPlace)
  (af:∀(j:Nat) t v,Tryz.f7.params[j]?=some t->aa[j]?=some v->Value.okWide Tryz.prog W .any base t v)
  (hW:DataW.Whole enc Tryz.prog Tryz.f7.params.toList Rows.againSpec.vars false W aa.toList ds gs ag) (hL:laidMetH Tryz.prog Rows.againRow.laid W) (aj:W.ShapedOpen Tryz.prog) :
  Calls Tryz.prog 7 aa W fun e W'=>∃v,e = .returned v/\Rows.againSpec.post enc Tryz.prog Tryz.f7 false true false false W aa v W':=by
 have ab:=hW
 obtain⟨p,q,ah,hV,rfl,ak,al⟩:=hW
 have hA:DataW.TrodAll enc Tryz.prog W 0 (fun _=>true) true Tryz.f7.params.toList aa.toList ds p:=ah
 rw[Tryz.params7] at hA af
 obtain⟨v0,d0,rfl,rfl,h0⟩:=trodAll_one hA
 have ae:=af 0 9 v0 rfl rfl
 obtain⟨s,rfl⟩:=okWide_string Tryz.underlying9 ae
 obtain⟨rfl,rfl⟩:=trodVars_none hV
 simp only[xn] at ab
 have ai:∀x∈p,x.block<W.heap.size:=fun x hx=>by simpa using ab.lt x hx
 have G:G3 W:=zoS hL aj
 refine(zhI G s (zeZ ae)).mono fun e W' ⟨he,hg⟩=>?_
 subst he
 have ad:=zh6 hg
 exact⟨_,rfl,_,_,_,[],p,[],ab,trodAll_mk1 (shut_bool Tryz.underlying4 _),(by
  have:=trodAll_mk1 (Below.trod zc0 (by kernel_rfl) (of_decide_eq_true (by kernel_rfl)) h0 ad (fun x hx=>ai x hx))
  exact this),rfl,ad.frame _,fun h=>by cases h⟩
theorem ze1 (os:Os){H:Type}(enc:TypeId×Value->H):∃places,DataW.whole enc Tryz.prog ((World.laidAll Tryz.prog os Rows.plainsRow.laid).forCall (fun _ _=>0) ⟨#[],#[.string ⟨#[]⟩],[]⟩).memory Tryz.f7.params.toList Rows.againSpec.vars false #[.string ⟨#[]⟩].toList 8=some ([.lit (.string [])],[],places):=
 ⟨[],by kernel_rfl⟩
theorem zbZ (os:Os)(af:os.Started)(H:Type)(enc:TypeId×Value->H)(F:Stop.Interp) :
  ReturnsInHanded {} Tryz.checked os 7 .any ((OpenSpec.ofChange Rows.againSpec).preRow enc Tryz.prog Tryz.f7 Rows.againRow.domain false Rows.againRow.laid) (((OpenSpec.ofChange Rows.againSpec).at F).post enc Tryz.prog Tryz.f7 false true false false):=by
 obtain⟨ag,hx⟩:=ze1 os enc
 refine returnsInHanded_of_row (C:=Tryz.checked) (s:=OpenSpec.ofChange Rows.againSpec) zmA af (by kernel_rfl) Tryz.func7
  (ze6 (enc:=enc) (World.laidAll Tryz.prog os Rows.plainsRow.laid) #[.string ⟨#[]⟩] (World.laidAll_os _ _ _) (ze7 os _) (by kernel_rfl)
   (OpenSpec.preRow_of_cond 8 hx (by kernel_rfl) (fun k hk=>by cases hk) (by kernel_rfl) (zmC os _))) ?_
 intro W base aa ds gs ab ae hW _ _ _ hL ad _
 exact fM H enc W base aa ds gs ab ae hW hL ad
theorem zh5:Rows.AgainSaid:=
 OpenClaim.holds_of_cond 7 Tryz.f7 rfl rfl rfl rfl rfl rfl rfl ⟨rfl,rfl,rfl,rfl,rfl⟩ rfl rfl rfl rfl rfl (by kernel_rfl) Tryz.func7 zbC
  (of_decide_eq_true (by kernel_rfl)) (by unfold Func.isWrapper;first | (rw[if_pos (by decide +kernel)];kernel_rfl) | (rw[if_neg (by decide +kernel)];exact⟨rfl,rfl⟩))
  (fun os started H enc _ F=>by rw[OpenClaim.pre_eq_preRow];exact zbZ os started H enc F)
theorem ze0 (f:FuncId)(fn:Func)(hf:Tryz.pinned.checked.prog.funcNamed "switchyard/switchyardkeep.Again" = some f) (aa:Tryz.pinned.checked.prog.funcs[f]?=some fn) :
  true=Tryz.pinned.checked.prog.looks []/\∀(j:Nat) t,fn.params[j]?=some t->Tryz.pinned.checked.prog.wantsStandIn t=false:=by
 obtain rfl:f=7:=qk ((show Tryz.prog.funcNamed "switchyard/switchyardkeep.Again" = some 7 by kernel_rfl).symm.trans hf) |>.symm
 obtain rfl:fn=Tryz.f7:=(qk (Tryz.func7.symm.trans aa)).symm
 refine⟨by kernel_rfl,fun j t ht=>?_⟩
 rw[Tryz.params7] at ht
 have hm:=Array.mem_of_getElem? ht
 have hw:∀t∈(#[9]:Array TypeId),Tryz.prog.wantsStandIn t=false:=by decide +kernel
 exact hw t hm
theorem again_card:Rows.AgainCardSaid:=
 Claim7.holds_tied_plain_at .later [] _ _ _ _ zh5 (fun _ h=>by cases h) (by kernel_rfl) (fun _ h=>by cases h) again_row_tie rfl ⟨rfl,rfl⟩ (by kernel_rfl) rfl ze0 (zjU Rows.againRow rfl)
#print axioms again_card
end Go.Proofs.YtfocdefchbnkpaaGreatDoor
