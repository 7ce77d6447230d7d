/- Edited, for every list of numbers and every number. No condition but what the row lists (the library's tables as its text lays them). -/
import Derived.Test.YtfocdefchbnkpaaGreatDoorAli
import Derived.Test.YtfocdefchbnkpaaGreatDoorKeO
import Derived.Test.YtfocdefchbnkpaaGreatDoorCards
import Derived.Test.YtfocdefchbnkpaaGreatDoorTie
import Derived.Test.YtfocdefchbnkpaaGreatDoorCardA
import Derived.Test.YtfocdefchbnkpaaGreatDoorCardG
import Derived.Test.YtfocdefchbnkpaaGreatDoorCardK
import Derived.WalkKit
import Derived.ProofKit
import Derived.OpenShut
import Derived.Deep.DeepHandedRow
import Derived.Deep.Strs
import Derived.ChangeSlices
import Derived.SevenTiedAt
import Derived.Carry
import Derived.JoinedCond
set_option maxRecDepth 100000
set_option maxHeartbeats 20000000
namespace Go.Proofs.YtfocdefchbnkpaaGreatDoor
open Go.ChangeShapes Go.WideShapes Go.ChangeAt Go.RowKit Go.Deep Go
theorem zsB {n:Int}(h:(Lit.int .i64 n).wf=true):-9223372036854775808<=n/\n<=9223372036854775807:=by
 have h2:(decide (IntKind.i64.min<=n) && decide (n<=IntKind.i64.max))=true:=h
 simp only[Bool.and_eq_true,decide_eq_true_eq] at h2
 have e1:IntKind.i64.min = -9223372036854775808:=by decide
 have e2:IntKind.i64.max=9223372036854775807:=by decide
 rw[e1,e2] at h2
 exact h2
theorem q67q {H:Type}{enc:TypeId×Value->H}{W:World}{a0:Option Addr}{aa ab ae:Nat}{x:DataW H×List MemPlace}
  (hf:DataW.trod enc Tryz.prog W 0 (fun _=>true) true ae 55 [.slice a0 aa ab]=some x) (G:G3 W) (m:Int) (hm:-9223372036854775808<=m/\m<=9223372036854775807) :
  Calls Tryz.prog 12 #[.slice a0 aa ab,.int .i64 m] W fun e w'=>e = .returned (.bool true)/\W.grownBy w' none:=by
 rcases open_ints Tryz.underlying55 Tryz.underlying3 (by kernel_rfl) hf with ⟨hcs,_⟩ | ⟨a,len',cap',zs,hcs,_,hl,hmx,hzl,_,hcell,hwf⟩
 ·simp at hcs
  obtain⟨rfl,rfl,rfl⟩:=hcs
  exact q17q G none 0 [] (fun i h=>by cases h) m hm
 ·simp at hcs
  obtain⟨rfl,rfl,rfl⟩:=hcs
  simp only[if_true] at hzl
  have ad:(zs.take aa).length=aa:=by rw[List.length_take];omega
  have h1:=q17q G (some a) ab (zs.take aa) (fun i h=>by
   have hi:i<zs.length:=by rw[ad] at h;omega
   have hc:=hcell i hi
   obtain⟨b,ag,ah⟩:=a
   have af:ah=none:=by simpa[Addr.add] using World.cell?_spot (hcell 0 (by omega))
   subst af
   refine⟨b,ag,rfl,?_,?_⟩
   ·rw[add_plain] at hc
    rw[hc,List.getElem_take]
    simp[hi]
   ·rw[List.getElem_take]
    exact zsB (hwf _ (List.getElem_mem hi))) m hm
  rw[ad] at h1
  exact h1
theorem q77q {W:World}{base:Nat}{n:Int}(h:Value.okWide Tryz.prog W .any base 3 (.int .i64 n)):-9223372036854775808<=n/\n<=9223372036854775807:=by
 unfold Value.okWide at h
 simp only[Tryz.underlying3] at h
 unfold Cell.okWide Cell.ok at h
 simp only[Tryz.underlying3] at h
 have h2:=h.2
 unfold IntKind.has at h2
 have e1:IntKind.i64.min = -9223372036854775808:=by decide
 have e2:IntKind.i64.max=9223372036854775807:=by decide
 rw[e1,e2] at h2
 exact h2
theorem q52q:(Rows.editedRow.wf (OpenSpec.ofChange (OpenSpec.ofChange Rows.editedSpec).bare))=true:=by kernel_rfl
theorem q53q:(laidOutB Tryz.pinned.checked.prog)=true:=by kernel_rfl
theorem q54q:(mapsRowed Tryz.pinned.checked.prog)=true:=by kernel_rfl
theorem q55q:(Tryz.f12.params.all (Tryz.pinned.checked.prog.readableRec ·))=true:=by kernel_rfl
theorem q56q:(namedTie Tryz.pinned.checked.prog Rows.editedRow.named (OpenSpec.ofChange Rows.editedSpec).bare.vars)=true:=by kernel_rfl
theorem q57q:((Rows.editedRow.stops == []))=true:=by kernel_rfl
theorem q58q:((Tryz.pinned.checked.prog.stops == []))=true:=by kernel_rfl
theorem q59q:((Rows.editedRow.knobs == []))=true:=by kernel_rfl
theorem q60q:((Tryz.pinned.checked.prog.stopKnobs == []))=true:=by kernel_rfl
theorem q61q:((Rows.editedRow.inPlace == Tryz.pinned.checked.prog.inPlace 12))=true:=by kernel_rfl
theorem q22q:((Rows.editedRow.unfollowed == Tryz.pinned.checked.prog.unfollowed 12))=true:=by kernel_rfl
theorem q23q:((Rows.editedRow.recurses == Tryz.pinned.checked.prog.recurses 12))=true:=by kernel_rfl
theorem q24q:((Rows.editedRow.named == Tryz.pinned.checked.prog.varsNamed 12))=true:=by kernel_rfl
theorem q25q:((Rows.editedRow.maps == (Tryz.f12.params.toList++(OpenSpec.ofChange Rows.editedSpec).bare.plain.varTypes Tryz.pinned.checked.prog).any (Tryz.pinned.checked.prog.mapsRec ·)))=true:=by kernel_rfl
theorem q26q:((Rows.editedRow.ifaces == (Tryz.f12.params.toList++(OpenSpec.ofChange Rows.editedSpec).bare.plain.varTypes Tryz.pinned.checked.prog).any (Tryz.pinned.checked.prog.ifacesRec ·)))=true:=by kernel_rfl
theorem q27q:((Rows.editedRow.mapsOut == Tryz.pinned.checked.prog.mapsAmong Tryz.f12.resultTypes.toList))=true:=by kernel_rfl
theorem q28q:((Rows.editedRow.loops == (Tryz.f12.params.toList++(OpenSpec.ofChange Rows.editedSpec).bare.plain.varTypes Tryz.pinned.checked.prog).any (Tryz.pinned.checked.prog.loopsFrom ·)))=true:=by kernel_rfl
theorem q29q:((Rows.editedRow.wideKeys == (Tryz.f12.params.toList++(OpenSpec.ofChange Rows.editedSpec).bare.plain.varTypes Tryz.pinned.checked.prog++Tryz.f12.resultTypes.toList).any (Tryz.pinned.checked.prog.wideKeysFrom ·)))=true:=by kernel_rfl
theorem q30q:((OpenSpec.ofChange Rows.editedSpec).bare.vars.all (Tryz.pinned.checked.prog.varReadable ·))=true:=by kernel_rfl
theorem q31q:(Tryz.f12.resultTypes.all (fun t=>Tryz.pinned.checked.prog.readableRec t && decide (t<Tryz.pinned.checked.prog.types.size)))=true:=by kernel_rfl
theorem q32q:((Rows.editedRow.ifacesOut == Tryz.f12.resultTypes.toList.any (Tryz.pinned.checked.prog.ifacesRec ·)))=true:=by kernel_rfl
theorem q33q:((Rows.editedRow.loopsOut == Tryz.f12.resultTypes.toList.any (Tryz.pinned.checked.prog.loopsFrom ·)))=true:=by kernel_rfl
theorem q34q:((Rows.editedRow.plainKeys == Tryz.pinned.checked.prog.plainKeys))=true:=by kernel_rfl
theorem q35q:(Rows.editedRow.shortTexts.isNone)=true:=by kernel_rfl
theorem q36q:(Tryz.pinned.checked.prog.stopsHeard)=true:=by kernel_rfl
theorem q37q:(Tryz.pinned.checked.prog.mayEnter)=true:=by kernel_rfl
theorem q38q:((Rows.editedRow.lifted == Tryz.pinned.checked.prog.liftsFinal))=true:=by kernel_rfl
theorem q39q:((Tryz.pinned.checked.prog.make == some Rows.editedRow.make))=true:=by kernel_rfl
theorem q40q:((Rows.editedRow.kinds == (if Rows.editedRow.domain.isEmpty then [] else Tryz.f12.params.toList.map fun t=>match Tryz.pinned.checked.prog.underlying t with | some (.int k)=>some k | _=>none)))=true:=by kernel_rfl
theorem q41q:((Rows.editedRow.pinned == Rows.editedRow.pinnedBy))=true:=by kernel_rfl
theorem q42q:((Rows.editedRow.veiled == (Tryz.f12.params.toList++(OpenSpec.ofChange Rows.editedSpec).bare.plain.varTypes Tryz.pinned.checked.prog++Tryz.f12.resultTypes.toList).any (Tryz.pinned.checked.prog.veiledRec ·)))=true:=by kernel_rfl
theorem q43q:(Rows.editedRow.veiledFits Tryz.pinned.checked.prog Tryz.f12.params.toList (Tryz.f12.params.toList++(OpenSpec.ofChange Rows.editedSpec).bare.plain.varTypes Tryz.pinned.checked.prog++Tryz.f12.resultTypes.toList))=true:=by kernel_rfl
theorem qF {a b:Bool}(ha:a=true)(hb:b=true):(a && b)=true:=by rw[ha,hb];rfl
theorem q21q:joinedFacts Tryz.pinned.checked.prog 12 Tryz.f12 (OpenSpec.ofChange Rows.editedSpec).bare Rows.editedRow=true:=by
 unfold joinedFacts
 exact qF (qF (qF (qF (qF (qF (qF (qF (qF (qF (qF (qF (qF (qF (qF (qF (qF (qF (qF (qF (qF (qF (qF (qF (qF (qF (qF (qF (qF (qF (qF (q52q) q53q) q54q) q55q) q56q) q57q) q58q) q59q) q60q) q61q) q22q) q23q) q24q) q25q) q26q) q27q) q28q) q29q) q30q) q31q) q32q) q33q) q34q) q35q) q36q) q37q) q38q) q39q) q40q) q41q) q42q) q43q
theorem q18q (H:Type)(enc:TypeId×Value->H)(W:World)(base:Nat)(aa:Array Value)(ds gs:List (DataW H))(ah:List MemPlace)
  (ae:∀(j:Nat) t v,Tryz.f12.params[j]?=some t->aa[j]?=some v->Value.okWide Tryz.prog W .any base t v)
  (hW:DataW.Whole enc Tryz.prog Tryz.f12.params.toList Rows.editedSpec.vars false W aa.toList ds gs ah) (hL:laidMetH Tryz.prog Rows.editedRow.laid W) (ak:W.ShapedOpen Tryz.prog) :
  Calls Tryz.prog 12 aa W fun e W'=>∃v,e = .returned v/\Rows.editedSpec.post enc Tryz.prog Tryz.f12 false true false false W aa v W':=by
 have ad:=hW
 obtain⟨p,q,aj,hV,rfl,ao,ap⟩:=hW
 have hA:DataW.TrodAll enc Tryz.prog W 0 (fun _=>true) true Tryz.f12.params.toList aa.toList ds p:=aj
 rw[Tryz.params12] at hA ae
 obtain⟨v0,v1,d0,d1,p0,p1,rfl,rfl,rfl,h0,h1⟩:=trodAll_two hA
 have al:=ae 0 55 v0 rfl rfl
 have ag:=ae 1 3 v1 rfl rfl
 obtain⟨a0,aq,am,rfl⟩:=okWide_slice Tryz.underlying55 al
 obtain⟨m,rfl⟩:=okWide_int Tryz.underlying3 ag
 have ai:=h0
 obtain⟨an,hf⟩:=ai
 obtain⟨rfl,rfl⟩:=trodVars_none hV
 simp only[xn] at ad
 have af:∀x∈(p0++p1),x.block<W.heap.size:=fun x hx=>by simpa using ad.lt x hx
 have G:G3 W:=zoS hL ak
 refine(q67q hf G m (q77q ag)).mono fun e W' ⟨he,hg⟩=>?_
 subst he
 have ab:=zh6 hg
 exact⟨_,rfl,_,_,_,[],(p0++p1),[],ad,trodAll_mk1 (shut_bool Tryz.underlying4 _),(by
  have:=trodAll_mk2 (Below.trod zc0 (by kernel_rfl) (of_decide_eq_true (by kernel_rfl)) h0 ab (fun x hx=>af x (List.mem_append_left _ hx))) (Below.trod zc0 (by kernel_rfl) (of_decide_eq_true (by kernel_rfl)) h1 ab (fun x hx=>af x (List.mem_append_right _ hx)))
  exact this),rfl,ab.frame _,fun h=>by cases h⟩
theorem q63q (os:Os){H:Type}(enc:TypeId×Value->H):∃places,DataW.whole enc Tryz.prog ((World.laidAll Tryz.prog os Rows.plainsRow.laid).forCall (fun _ _=>0) ⟨#[],#[.slice none 0 0,.int .i64 0],[]⟩).memory Tryz.f12.params.toList Rows.editedSpec.vars false #[.slice none 0 0,.int .i64 0].toList 8=some ([.nil,.lit (.int .i64 0)],[],places):=
 ⟨[],by kernel_rfl⟩
theorem q44q (os:Os)(af:os.Started)(H:Type)(enc:TypeId×Value->H)(F:Stop.Interp) :
  ReturnsInHanded {} Tryz.checked os 12 .any ((OpenSpec.ofChange Rows.editedSpec).preRow enc Tryz.prog Tryz.f12 Rows.editedRow.domain false Rows.editedRow.laid) (((OpenSpec.ofChange Rows.editedSpec).at F).post enc Tryz.prog Tryz.f12 false true false false):=by
 obtain⟨ag,hx⟩:=q63q os enc
 refine returnsInHanded_of_row (C:=Tryz.checked) (s:=OpenSpec.ofChange Rows.editedSpec) zmA af (by kernel_rfl) Tryz.func12
  (ze6 (enc:=enc) (World.laidAll Tryz.prog os Rows.plainsRow.laid) #[.slice none 0 0,.int .i64 0] (World.laidAll_os _ _ _) (ze7 os _) (by kernel_rfl)
   (OpenSpec.preRow_of_cond 8 hx (by kernel_rfl) (fun k hk=>by cases hk) (by kernel_rfl) (zmC os _))) ?_
 intro W base aa ds gs ab ae hW _ _ _ hL ad _
 exact q18q H enc W base aa ds gs ab ae hW hL ad
theorem q66q:Rows.EditedSaid:=
 OpenClaim.holds_of_cond 12 Tryz.f12 rfl rfl rfl rfl rfl rfl rfl ⟨rfl,rfl,rfl,rfl,rfl⟩ rfl rfl rfl rfl rfl (by kernel_rfl) Tryz.func12 q21q
  (of_decide_eq_true (by kernel_rfl)) (by unfold Func.isWrapper;first | (rw[if_pos (by decide +kernel)];kernel_rfl) | (rw[if_neg (by decide +kernel)];exact⟨rfl,rfl⟩))
  (fun os started H enc _ F=>by rw[OpenClaim.pre_eq_preRow];exact q44q os started H enc F)
theorem q62q (f:FuncId)(fn:Func)(hf:Tryz.pinned.checked.prog.funcNamed "switchyard/switchyardkeep.Edited" = some f) (aa:Tryz.pinned.checked.prog.funcs[f]?=some fn) :
  true=Tryz.pinned.checked.prog.looks []/\∀(j:Nat) t,fn.params[j]?=some t->Tryz.pinned.checked.prog.wantsStandIn t=false:=by
 obtain rfl:f=12:=qk ((show Tryz.prog.funcNamed "switchyard/switchyardkeep.Edited" = some 12 by kernel_rfl).symm.trans hf) |>.symm
 obtain rfl:fn=Tryz.f12:=(qk (Tryz.func12.symm.trans aa)).symm
 refine⟨by kernel_rfl,fun j t ht=>?_⟩
 rw[Tryz.params12] at ht
 have hm:=Array.mem_of_getElem? ht
 have hw:∀t∈(#[55,3]:Array TypeId),Tryz.prog.wantsStandIn t=false:=by decide +kernel
 exact hw t hm
theorem edited_card:Rows.EditedCardSaid:=
 Claim7.holds_tied_plain_at .later [] _ _ _ _ q66q (fun _ h=>by cases h) (by kernel_rfl) (fun _ h=>by cases h) edited_row_tie rfl ⟨rfl,rfl⟩ (by kernel_rfl) rfl q62q (zjU Rows.editedRow rfl)
#print axioms edited_card
end Go.Proofs.YtfocdefchbnkpaaGreatDoor
