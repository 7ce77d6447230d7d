/- Packs, for every script of Plain, Pack and Unpack (steps of other kinds are passed by) whose reading is of bulk at most 1048576: whatever the bytes, each answer is the document's own, and every list that came out reads as the caller wrote it; the script reads afterwards as before. Conditions: that bound, and what the row lists (the library's tables as its text lays them). -/
import Derived.Test.YtfocdefchbnkpaaGreatDoorAli
import Derived.Test.YtfocdefchbnkpaaGreatDoorCards
import Derived.Test.YtfocdefchbnkpaaGreatDoorTie
import Derived.Test.YtfocdefchbnkpaaGreatDoorOpA
import Derived.Test.YtfocdefchbnkpaaGreatDoorCardA
import Derived.Test.YtfocdefchbnkpaaGreatDoorCardFP
import Derived.Test.YtfocdefchbnkpaaGreatDoorCardG
import Derived.WalkKit
import Derived.ProofKit
import Derived.OpenShut
import Derived.Deep.DeepHandedRow
import Derived.SevenTiedAt
import Derived.Carry
set_option maxRecDepth 100000
set_option maxHeartbeats 20000000
namespace Go.Proofs.YtfocdefchbnkpaaGreatDoor
open Go.ChangeShapes Go.WideShapes Go.ChangeAt Go.RowKit Go.Deep
theorem zkU:Rows.packsUptoRow.laid=Rows.plainsRow.laid:=rfl
theorem zd5 (H:Type)(enc:TypeId×Value->H)(W:World)(base:Nat)(aa:Array Value)(ds gs:List (DataW H))(af:List MemPlace)
  (ae:∀(j:Nat) t v,Tryz.f4.params[j]?=some t->aa[j]?=some v->Value.okWide Tryz.prog W .any base t v)
  (hW:DataW.Whole enc Tryz.prog Tryz.f4.params.toList Rows.packsSpec.vars false W aa.toList ds gs af) (hk:Rows.uptoSmall H (ds++gs)=true) (hL:laidMetH Tryz.prog Rows.packsUptoRow.laid W) (ak:W.ShapedOpen Tryz.prog) :
  Calls Tryz.prog 4 aa W fun e W'=>∃v,e = .returned v/\Rows.packsSpec.post enc Tryz.prog Tryz.f4 false true false false W aa v W':=by
 have ab:=hW
 obtain⟨p,q,ah,hV,rfl,an,ao⟩:=hW
 have hA:DataW.TrodAll enc Tryz.prog W 0 (fun _=>true) true Tryz.f4.params.toList aa.toList ds p:=ah
 rw[Tryz.params4] at hA ae
 obtain⟨v0,d0,rfl,rfl,h0⟩:=trodAll_one hA
 obtain⟨rfl,rfl⟩:=trodVars_none hV
 obtain⟨a0,ap,al,rfl⟩:=okWide_slice Tryz.underlying25 (ae 0 25 v0 rfl rfl)
 have ag:=h0
 obtain⟨am,hf⟩:=h0
 simp only[zb3] at ab
 have ai:∀x∈p,x.block<W.heap.size:=fun x hx=>by simpa using ab.lt x hx
 have hb:Rows.uptoBulk d0<=1048576:=by
  have h:=of_decide_eq_true hk
  simp only[zb3,Rows.uptoBulkAll] at h
  omega
 obtain⟨aj,hn⟩:=zk5 hf hb
 rw[zkU] at hL
 refine(zoU aj hn (znE ak) (zq3 hL)).mono fun e W' ⟨he,hg⟩=>?_
 subst he
 have ad:=zk0 hg
 exact⟨_,rfl,_,_,_,[],p,[],ab,trodAll_mk1 (shut_bool Tryz.underlying4 _),by
  have:=trodAll_mk1 (Below.trod zgO (by kernel_rfl) (of_decide_eq_true (by kernel_rfl)) ag ad ai)
  exact this,rfl,ad.frame _,fun h=>by cases h⟩
theorem zjL (os:Os){H:Type}(enc:TypeId×Value->H):∃places,DataW.whole enc Tryz.prog ((World.laidAll Tryz.prog os Rows.packsUptoRow.laid).forCall (fun _ _=>0) ⟨#[],#[.slice none 0 0],[]⟩).memory Tryz.f4.params.toList Rows.packsSpec.vars false #[Value.slice none 0 0].toList 8=some ([.nil],[],places):=
 ⟨[],by kernel_rfl⟩
theorem zg8 (os:Os)(ag:os.Started)(H:Type)(enc:TypeId×Value->H)(F:Stop.Interp) :
  ReturnsInHanded {} Tryz.checked os 4 .any ((Rows.OpenSpec.upto Rows.packsSpec).preRow enc Tryz.prog Tryz.f4 Rows.packsUptoRow.domain false Rows.packsUptoRow.laid) (((Rows.OpenSpec.upto Rows.packsSpec).at F).post enc Tryz.prog Tryz.f4 false true false false):=by
 obtain⟨ah,hx⟩:=zjL os enc
 refine returnsInHanded_of_row (C:=Tryz.checked) (s:=Rows.OpenSpec.upto Rows.packsSpec) zr1 ag (by kernel_rfl) Tryz.func4
  (zjR (enc:=enc) (World.laidAll Tryz.prog os Rows.packsUptoRow.laid) #[.slice none 0 0] (World.laidAll_os _ _ _) (zi3 os _) (by kernel_rfl)
   (OpenSpec.preRow_of_cond 8 hx (by kernel_rfl) (fun k hk=>by cases hk;kernel_rfl) (by kernel_rfl) (zrA os _))) ?_
 intro W base aa ds gs ab af hW _ ad _ hL ae _
 exact zd5 H enc W base aa ds gs ab af hW (ad _ rfl) hL ae
theorem zkT:Rows.PacksUptoSaid:=
 OpenClaim.holds_of_cond 4 Tryz.f4 rfl rfl rfl rfl rfl rfl rfl ⟨rfl,rfl,rfl,rfl,rfl⟩ rfl rfl rfl rfl rfl (by kernel_rfl) Tryz.func4 td
  (of_decide_eq_true (by kernel_rfl)) (by unfold Func.isWrapper;first | (rw[if_pos (by decide +kernel)];kernel_rfl) | (rw[if_neg (by decide +kernel)];exact⟨rfl,rfl⟩))
  (fun os started H enc _ F=>by rw[OpenClaim.pre_eq_preRow];exact zg8 os started H enc F)
theorem zj6 (f:FuncId)(fn:Func)(hf:Tryz.pinned.checked.prog.funcNamed "switchyard/switchyardlaw.Packs" = some f) (aa:Tryz.pinned.checked.prog.funcs[f]?=some fn) :
  true=Tryz.pinned.checked.prog.looks []/\∀(j:Nat) t,fn.params[j]?=some t->Tryz.pinned.checked.prog.wantsStandIn t=false:=by
 obtain rfl:f=4:=x5 ((show Tryz.prog.funcNamed "switchyard/switchyardlaw.Packs" = some 4 by kernel_rfl).symm.trans hf) |>.symm
 obtain rfl:fn=Tryz.f4:=(x5 (Tryz.func4.symm.trans aa)).symm
 refine⟨by kernel_rfl,fun j t ht=>?_⟩
 rw[Tryz.params4] at ht
 obtain rfl:t=25:=by simpa using Array.mem_of_getElem? ht
 exact(show Tryz.prog.wantsStandIn 25=false by kernel_rfl)
theorem packs_card:Rows.PacksUptoCardSaid:=
 Claim7.holds_tied_plain_at .later [] _ _ _ _ zkT (fun _ h=>by cases h) (by kernel_rfl) (fun _ h=>by cases h) packsUpto_row_tie rfl ⟨rfl,rfl⟩ (by kernel_rfl) rfl zj6 (zo9 Rows.packsUptoRow rfl)
#print axioms packs_card
end Go.Proofs.YtfocdefchbnkpaaGreatDoor
