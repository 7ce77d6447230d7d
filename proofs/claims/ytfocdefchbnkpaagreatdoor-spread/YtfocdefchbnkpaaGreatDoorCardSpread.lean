/- Spread, for every list of numbers and every number. No condition but what the row lists (the library's tables as its text lays them). -/
import Derived.Test.YtfocdefchbnkpaaGreatDoorAli
import Derived.Test.YtfocdefchbnkpaaGreatDoorSpC
import Derived.Test.YtfocdefchbnkpaaGreatDoorCards
import Derived.Test.YtfocdefchbnkpaaGreatDoorTie
import Derived.Test.YtfocdefchbnkpaaGreatDoorCardA
import Derived.Test.YtfocdefchbnkpaaGreatDoorCardG
import Derived.Test.YtfocdefchbnkpaaGreatDoorCardK
import Derived.WalkKit
import Derived.ProofKit
import Derived.OpenShut
import Derived.Deep.DeepHandedRow
import Derived.Deep.Strs
import Derived.ChangeSlices
import Derived.SevenTiedAt
import Derived.Carry
import Derived.JoinedCond
set_option maxRecDepth 100000
set_option maxHeartbeats 20000000
namespace Go.Proofs.YtfocdefchbnkpaaGreatDoor
open Go.ChangeShapes Go.WideShapes Go.ChangeAt Go.RowKit Go.Deep Go
theorem zrU {n:Int}(h:(Lit.int .i64 n).wf=true):-9223372036854775808<=n/\n<=9223372036854775807:=by
 have h2:(decide (IntKind.i64.min<=n) && decide (n<=IntKind.i64.max))=true:=h
 simp only[Bool.and_eq_true,decide_eq_true_eq] at h2
 have e1:IntKind.i64.min = -9223372036854775808:=by decide
 have e2:IntKind.i64.max=9223372036854775807:=by decide
 rw[e1,e2] at h2
 exact h2
theorem q61q {H:Type}{enc:TypeId×Value->H}{W:World}{a0:Option Addr}{aa ab af:Nat}{x:DataW H×List MemPlace}
  (hf:DataW.trod enc Tryz.prog W 0 (fun _=>true) true af 55 [.slice a0 aa ab]=some x) (G:G3 W) (m:Int) (hm:0<=m/\m<=18446744073709551615) :
  Calls Tryz.prog 11 #[.slice a0 aa ab,.int .u64 m] W fun e w'=>e = .returned (.bool true)/\W.grownBy w' none:=by
 obtain⟨fr,rfl⟩:=Int.eq_ofNat_of_zero_le hm.1
 have ad:fr<18446744073709551616:=by omega
 rcases open_ints Tryz.underlying55 Tryz.underlying3 (by kernel_rfl) hf with ⟨hcs,_⟩ | ⟨a,len',cap',zs,hcs,_,hl,hmx,hzl,_,hcell,hwf⟩
 ·simp at hcs
  obtain⟨rfl,rfl,rfl⟩:=hcs
  exact q9q G none 0 [] (fun i h=>by cases h) fr ad
 ·simp at hcs
  obtain⟨rfl,rfl,rfl⟩:=hcs
  simp only[if_true] at hzl
  have ae:(zs.take aa).length=aa:=by rw[List.length_take];omega
  have h1:=q9q G (some a) ab (zs.take aa) (fun i h=>by
   have hi:i<zs.length:=by rw[ae] at h;omega
   have hc:=hcell i hi
   obtain⟨b,ah,ai⟩:=a
   have ag:ai=none:=by simpa[Addr.add] using World.cell?_spot (hcell 0 (by omega))
   subst ag
   refine⟨b,ah,rfl,?_,?_⟩
   ·rw[add_plain] at hc
    rw[hc,List.getElem_take]
    simp[hi]
   ·rw[List.getElem_take]
    exact zrU (hwf _ (List.getElem_mem hi))) fr ad
  rw[ae] at h1
  exact h1
theorem q62q {W:World}{base:Nat}{n:Int}(h:Value.okWide Tryz.prog W .any base 60 (.int .u64 n)):0<=n/\n<=18446744073709551615:=by
 unfold Value.okWide at h
 simp only[Tryz.underlying60] at h
 unfold Cell.okWide Cell.ok at h
 simp only[Tryz.underlying60] at h
 have h2:=h.2
 unfold IntKind.has at h2
 have e1:IntKind.u64.min=0:=by decide
 have e2:IntKind.u64.max=18446744073709551615:=by decide
 rw[e1,e2] at h2
 exact h2
theorem q45q:(Rows.spreadRow.wf (OpenSpec.ofChange (OpenSpec.ofChange Rows.spreadSpec).bare))=true:=by kernel_rfl
theorem q46q:(laidOutB Tryz.pinned.checked.prog)=true:=by kernel_rfl
theorem q47q:(mapsRowed Tryz.pinned.checked.prog)=true:=by kernel_rfl
theorem q48q:(Tryz.f11.params.all (Tryz.pinned.checked.prog.readableRec ·))=true:=by kernel_rfl
theorem q49q:(namedTie Tryz.pinned.checked.prog Rows.spreadRow.named (OpenSpec.ofChange Rows.spreadSpec).bare.vars)=true:=by kernel_rfl
theorem q50q:((Rows.spreadRow.stops == []))=true:=by kernel_rfl
theorem q51q:((Tryz.pinned.checked.prog.stops == []))=true:=by kernel_rfl
theorem q52q:((Rows.spreadRow.knobs == []))=true:=by kernel_rfl
theorem q53q:((Tryz.pinned.checked.prog.stopKnobs == []))=true:=by kernel_rfl
theorem q54q:((Rows.spreadRow.inPlace == Tryz.pinned.checked.prog.inPlace 11))=true:=by kernel_rfl
theorem q17q:((Rows.spreadRow.unfollowed == Tryz.pinned.checked.prog.unfollowed 11))=true:=by kernel_rfl
theorem q18q:((Rows.spreadRow.recurses == Tryz.pinned.checked.prog.recurses 11))=true:=by kernel_rfl
theorem q19q:((Rows.spreadRow.named == Tryz.pinned.checked.prog.varsNamed 11))=true:=by kernel_rfl
theorem q20q:((Rows.spreadRow.maps == (Tryz.f11.params.toList++(OpenSpec.ofChange Rows.spreadSpec).bare.plain.varTypes Tryz.pinned.checked.prog).any (Tryz.pinned.checked.prog.mapsRec ·)))=true:=by kernel_rfl
theorem q21q:((Rows.spreadRow.ifaces == (Tryz.f11.params.toList++(OpenSpec.ofChange Rows.spreadSpec).bare.plain.varTypes Tryz.pinned.checked.prog).any (Tryz.pinned.checked.prog.ifacesRec ·)))=true:=by kernel_rfl
theorem q22q:((Rows.spreadRow.mapsOut == Tryz.pinned.checked.prog.mapsAmong Tryz.f11.resultTypes.toList))=true:=by kernel_rfl
theorem q23q:((Rows.spreadRow.loops == (Tryz.f11.params.toList++(OpenSpec.ofChange Rows.spreadSpec).bare.plain.varTypes Tryz.pinned.checked.prog).any (Tryz.pinned.checked.prog.loopsFrom ·)))=true:=by kernel_rfl
theorem q24q:((Rows.spreadRow.wideKeys == (Tryz.f11.params.toList++(OpenSpec.ofChange Rows.spreadSpec).bare.plain.varTypes Tryz.pinned.checked.prog++Tryz.f11.resultTypes.toList).any (Tryz.pinned.checked.prog.wideKeysFrom ·)))=true:=by kernel_rfl
theorem q25q:((OpenSpec.ofChange Rows.spreadSpec).bare.vars.all (Tryz.pinned.checked.prog.varReadable ·))=true:=by kernel_rfl
theorem q26q:(Tryz.f11.resultTypes.all (fun t=>Tryz.pinned.checked.prog.readableRec t && decide (t<Tryz.pinned.checked.prog.types.size)))=true:=by kernel_rfl
theorem q27q:((Rows.spreadRow.ifacesOut == Tryz.f11.resultTypes.toList.any (Tryz.pinned.checked.prog.ifacesRec ·)))=true:=by kernel_rfl
theorem q28q:((Rows.spreadRow.loopsOut == Tryz.f11.resultTypes.toList.any (Tryz.pinned.checked.prog.loopsFrom ·)))=true:=by kernel_rfl
theorem q29q:((Rows.spreadRow.plainKeys == Tryz.pinned.checked.prog.plainKeys))=true:=by kernel_rfl
theorem q30q:(Rows.spreadRow.shortTexts.isNone)=true:=by kernel_rfl
theorem q31q:(Tryz.pinned.checked.prog.stopsHeard)=true:=by kernel_rfl
theorem q32q:(Tryz.pinned.checked.prog.mayEnter)=true:=by kernel_rfl
theorem q33q:((Rows.spreadRow.lifted == Tryz.pinned.checked.prog.liftsFinal))=true:=by kernel_rfl
theorem q34q:((Tryz.pinned.checked.prog.make == some Rows.spreadRow.make))=true:=by kernel_rfl
theorem q35q:((Rows.spreadRow.kinds == (if Rows.spreadRow.domain.isEmpty then [] else Tryz.f11.params.toList.map fun t=>match Tryz.pinned.checked.prog.underlying t with | some (.int k)=>some k | _=>none)))=true:=by kernel_rfl
theorem q36q:((Rows.spreadRow.pinned == Rows.spreadRow.pinnedBy))=true:=by kernel_rfl
theorem q37q:((Rows.spreadRow.veiled == (Tryz.f11.params.toList++(OpenSpec.ofChange Rows.spreadSpec).bare.plain.varTypes Tryz.pinned.checked.prog++Tryz.f11.resultTypes.toList).any (Tryz.pinned.checked.prog.veiledRec ·)))=true:=by kernel_rfl
theorem q38q:(Rows.spreadRow.veiledFits Tryz.pinned.checked.prog Tryz.f11.params.toList (Tryz.f11.params.toList++(OpenSpec.ofChange Rows.spreadSpec).bare.plain.varTypes Tryz.pinned.checked.prog++Tryz.f11.resultTypes.toList))=true:=by kernel_rfl
theorem qF {a b:Bool}(ha:a=true)(hb:b=true):(a && b)=true:=by rw[ha,hb];rfl
theorem q16q:joinedFacts Tryz.pinned.checked.prog 11 Tryz.f11 (OpenSpec.ofChange Rows.spreadSpec).bare Rows.spreadRow=true:=by
 unfold joinedFacts
 exact qF (qF (qF (qF (qF (qF (qF (qF (qF (qF (qF (qF (qF (qF (qF (qF (qF (qF (qF (qF (qF (qF (qF (qF (qF (qF (qF (qF (qF (qF (qF (q45q) q46q) q47q) q48q) q49q) q50q) q51q) q52q) q53q) q54q) q17q) q18q) q19q) q20q) q21q) q22q) q23q) q24q) q25q) q26q) q27q) q28q) q29q) q30q) q31q) q32q) q33q) q34q) q35q) q36q) q37q) q38q
theorem q10q (H:Type)(enc:TypeId×Value->H)(W:World)(base:Nat)(aa:Array Value)(ds gs:List (DataW H))(ah:List MemPlace)
  (ae:∀(j:Nat) t v,Tryz.f11.params[j]?=some t->aa[j]?=some v->Value.okWide Tryz.prog W .any base t v)
  (hW:DataW.Whole enc Tryz.prog Tryz.f11.params.toList Rows.spreadSpec.vars false W aa.toList ds gs ah) (hL:laidMetH Tryz.prog Rows.spreadRow.laid W) (ak:W.ShapedOpen Tryz.prog) :
  Calls Tryz.prog 11 aa W fun e W'=>∃v,e = .returned v/\Rows.spreadSpec.post enc Tryz.prog Tryz.f11 false true false false W aa v W':=by
 have ad:=hW
 obtain⟨p,q,aj,hV,rfl,ao,ap⟩:=hW
 have hA:DataW.TrodAll enc Tryz.prog W 0 (fun _=>true) true Tryz.f11.params.toList aa.toList ds p:=aj
 rw[Tryz.params11] at hA ae
 obtain⟨v0,v1,d0,d1,p0,p1,rfl,rfl,rfl,h0,h1⟩:=trodAll_two hA
 have al:=ae 0 55 v0 rfl rfl
 have ag:=ae 1 60 v1 rfl rfl
 obtain⟨a0,aq,am,rfl⟩:=okWide_slice Tryz.underlying55 al
 obtain⟨m,rfl⟩:=okWide_int Tryz.underlying60 ag
 have ai:=h0
 obtain⟨an,hf⟩:=ai
 obtain⟨rfl,rfl⟩:=trodVars_none hV
 simp only[xn] at ad
 have af:∀x∈(p0++p1),x.block<W.heap.size:=fun x hx=>by simpa using ad.lt x hx
 have G:G3 W:=zoS hL ak
 refine(q61q hf G m (q62q ag)).mono fun e W' ⟨he,hg⟩=>?_
 subst he
 have ab:=zh6 hg
 exact⟨_,rfl,_,_,_,[],(p0++p1),[],ad,trodAll_mk1 (shut_bool Tryz.underlying4 _),(by
  have:=trodAll_mk2 (Below.trod zc0 (by kernel_rfl) (of_decide_eq_true (by kernel_rfl)) h0 ab (fun x hx=>af x (List.mem_append_left _ hx))) (Below.trod zc0 (by kernel_rfl) (of_decide_eq_true (by kernel_rfl)) h1 ab (fun x hx=>af x (List.mem_append_right _ hx)))
  exact this),rfl,ab.frame _,fun h=>by cases h⟩
theorem q56q (os:Os){H:Type}(enc:TypeId×Value->H):∃places,DataW.whole enc Tryz.prog ((World.laidAll Tryz.prog os Rows.plainsRow.laid).forCall (fun _ _=>0) ⟨#[],#[.slice none 0 0,.int .u64 0],[]⟩).memory Tryz.f11.params.toList Rows.spreadSpec.vars false #[.slice none 0 0,.int .u64 0].toList 8=some ([.nil,.lit (.int .u64 0)],[],places):=
 ⟨[],by kernel_rfl⟩
theorem q39q (os:Os)(af:os.Started)(H:Type)(enc:TypeId×Value->H)(F:Stop.Interp) :
  ReturnsInHanded {} Tryz.checked os 11 .any ((OpenSpec.ofChange Rows.spreadSpec).preRow enc Tryz.prog Tryz.f11 Rows.spreadRow.domain false Rows.spreadRow.laid) (((OpenSpec.ofChange Rows.spreadSpec).at F).post enc Tryz.prog Tryz.f11 false true false false):=by
 obtain⟨ag,hx⟩:=q56q os enc
 refine returnsInHanded_of_row (C:=Tryz.checked) (s:=OpenSpec.ofChange Rows.spreadSpec) zmA af (by kernel_rfl) Tryz.func11
  (ze6 (enc:=enc) (World.laidAll Tryz.prog os Rows.plainsRow.laid) #[.slice none 0 0,.int .u64 0] (World.laidAll_os _ _ _) (ze7 os _) (by kernel_rfl)
   (OpenSpec.preRow_of_cond 8 hx (by kernel_rfl) (fun k hk=>by cases hk) (by kernel_rfl) (zmC os _))) ?_
 intro W base aa ds gs ab ae hW _ _ _ hL ad _
 exact q10q H enc W base aa ds gs ab ae hW hL ad
theorem q60q:Rows.SpreadSaid:=
 OpenClaim.holds_of_cond 11 Tryz.f11 rfl rfl rfl rfl rfl rfl rfl ⟨rfl,rfl,rfl,rfl,rfl⟩ rfl rfl rfl rfl rfl (by kernel_rfl) Tryz.func11 q16q
  (of_decide_eq_true (by kernel_rfl)) (by unfold Func.isWrapper;first | (rw[if_pos (by decide +kernel)];kernel_rfl) | (rw[if_neg (by decide +kernel)];exact⟨rfl,rfl⟩))
  (fun os started H enc _ F=>by rw[OpenClaim.pre_eq_preRow];exact q39q os started H enc F)
theorem q55q (f:FuncId)(fn:Func)(hf:Tryz.pinned.checked.prog.funcNamed "switchyard/switchyardkeep.Spread" = some f) (aa:Tryz.pinned.checked.prog.funcs[f]?=some fn) :
  true=Tryz.pinned.checked.prog.looks []/\∀(j:Nat) t,fn.params[j]?=some t->Tryz.pinned.checked.prog.wantsStandIn t=false:=by
 obtain rfl:f=11:=qk ((show Tryz.prog.funcNamed "switchyard/switchyardkeep.Spread" = some 11 by kernel_rfl).symm.trans hf) |>.symm
 obtain rfl:fn=Tryz.f11:=(qk (Tryz.func11.symm.trans aa)).symm
 refine⟨by kernel_rfl,fun j t ht=>?_⟩
 rw[Tryz.params11] at ht
 have hm:=Array.mem_of_getElem? ht
 have hw:∀t∈(#[55,60]:Array TypeId),Tryz.prog.wantsStandIn t=false:=by decide +kernel
 exact hw t hm
theorem spread_card:Rows.SpreadCardSaid:=
 Claim7.holds_tied_plain_at .later [] _ _ _ _ q60q (fun _ h=>by cases h) (by kernel_rfl) (fun _ h=>by cases h) spread_row_tie rfl ⟨rfl,rfl⟩ (by kernel_rfl) rfl q55q (zjU Rows.spreadRow rfl)
#print axioms spread_card
end Go.Proofs.YtfocdefchbnkpaaGreatDoor
