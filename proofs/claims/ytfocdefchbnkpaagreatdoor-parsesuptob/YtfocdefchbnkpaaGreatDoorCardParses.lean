/- Parses, for every script of Plain, Pack, Unpack, New, Open, Feed, Close and Events (steps of other kinds are passed by) whose reading is of bulk at most 1048576: whatever the bytes, each answer is the document's own, every yard sends what the document's sends, and every list that came out reads as the caller wrote it; the script reads afterwards as before. Conditions: that bound, and what the row lists (the library's tables as its text lays them). -/
import Derived.Test.YtfocdefchbnkpaaGreatDoorCards
import Derived.Test.YtfocdefchbnkpaaGreatDoorTie
import Derived.Test.YtfocdefchbnkpaaGreatDoorOpC
import Derived.Test.YtfocdefchbnkpaaGreatDoorCardFQ
import Derived.Test.YtfocdefchbnkpaaGreatDoorCardK
import Derived.Test.YtfocdefchbnkpaaGreatDoorCardG
import Derived.ProofKit
import Derived.OpenShut
import Derived.Deep.DeepHandedRow
import Derived.SevenTiedAt
set_option maxRecDepth 100000
set_option maxHeartbeats 20000000
open Option renaming some->V
namespace Go.Proofs.YtfocdefchbnkpaaGreatDoor
open Go.ChangeShapes Go.WideShapes Go.ChangeAt Go.RowKit Go.Deep Proofs.Tryz
theorem lK:Rows.parsesUptoRow.laid=Rows.plainsRow.laid:=rfl
theorem gw (H:Type)(enc:TypeId×Value->H)(W:World)(base:Nat)(a:Array Value)(o s:List (DataW H))(c:List MemPlace)
  (d:∀(j:Nat) t v,Tryz.f5.params[j]?=V t->a[j]?=V v->Value.okWide prog W .any base t v)
  (y:DataW.Whole enc prog Tryz.f5.params.toList Rows.parsesSpec.vars false W a.toList o s c) (hk:Rows.uptoSmall H (o++s)=true) (k:laidMetH prog Rows.parsesUptoRow.laid W) (g:W.ShapedOpen prog) :
  Calls prog 5 a W fun e W'=>∃v,e = .returned v/\Rows.parsesSpec.post enc prog Tryz.f5 false true false false W a v W':=by
 have f:=y;obtain⟨p,q,m,E,rfl,Q,aa⟩:=y;have w:=m;rw[params5] at w d;obtain⟨v0,C,rfl,rfl,u⟩:=trodAll_one w;obtain⟨rfl,rfl⟩:=trodVars_none E;obtain⟨a0,ab,B,rfl⟩:=okWide_slice underlying25 (d 0 25 v0 rfl rfl);have l:=u;obtain⟨r,N⟩:=u;simp only[Cv] at f;have n:∀x∈p,x.block<W.heap.size:=fun x hx=>by simpa using f.lt x hx
 have F:Rows.uptoBulk C<=1048576:=by
  have h:=Iz hk;simp only[Cv,Rows.uptoBulkAll] at h
  omega
 obtain⟨ff,b,z,hn⟩:=lJ N F;rw[lK] at k;refine(zb7 b hn (by omega) (rL g) (iR k) (zcO k) ⟨(zcN k g).low.1,(zcN k g).low.2.1⟩).mono fun e W' ⟨he,hg⟩=>?_
 subst he;have i:=zaV hg;exact⟨_,rfl,_,_,_,[],p,[],f,trodAll_mk1 (shut_bool underlying4 _),by
  have:=trodAll_mk1 (Below.trod aG (by kernel_rfl) (Iz (by kernel_rfl)) l i n);exact this,rfl,i.frame _,fun h=>by cases h⟩
theorem aT (a:Os){H:Type}(enc:TypeId×Value->H):∃places,DataW.whole enc prog ((World.laidAll prog a Rows.parsesUptoRow.laid).forCall (fun _ _=>0) ⟨#[],#[.slice none 0 0],[]⟩).memory Tryz.f5.params.toList Rows.parsesSpec.vars false #[Value.slice none 0 0].toList 8=V ([.nil],[],places):=
 ⟨[],by kernel_rfl⟩
theorem pR (d:Os)(a:d.Started)(H:Type)(enc:TypeId×Value->H)(F:Stop.Interp) :
  ReturnsInHanded {} Tryz.checked d 5 .any ((Rows.OpenSpec.upto Rows.parsesSpec).preRow enc prog Tryz.f5 Rows.parsesUptoRow.domain false Rows.parsesUptoRow.laid) (((Rows.OpenSpec.upto Rows.parsesSpec).at F).post enc prog Tryz.f5 false true false false):=by
 obtain⟨h,o⟩:=aT d enc;refine returnsInHanded_of_row (C:=Tryz.checked) (s:=Rows.OpenSpec.upto Rows.parsesSpec) zh1 a (by kernel_rfl) func5
  (iS (enc:=enc) (World.laidAll prog d Rows.parsesUptoRow.laid) #[.slice none 0 0] (World.laidAll_os _ _ _) (iT d _) (by kernel_rfl)
   (OpenSpec.preRow_of_cond 8 o (by kernel_rfl) (fun k hk=>by cases hk;kernel_rfl) (by kernel_rfl) (zh2 d _))) ?_
 intro W base f j l b g n _ c _ m i _;exact gw H enc W base f j l b g n (c _ rfl) m i
theorem lL:Rows.ParsesUptoSaid:=
 OpenClaim.holds_of_cond 5 Tryz.f5 rfl rfl rfl rfl rfl rfl rfl ⟨rfl,rfl,rfl,rfl,rfl⟩ rfl rfl rfl rfl rfl (by kernel_rfl) func5 bi
  (Iz (by kernel_rfl)) (by unfold Func.isWrapper;first | (rw[Az (by decide +kernel)];kernel_rfl) | (rw[Aw (by decide +kernel)];exact⟨rfl,rfl⟩))
  (fun os started H enc _ F=>by rw[OpenClaim.pre_eq_preRow];exact pR os started H enc F)
theorem aQ (f:FuncId)(a:Func)(c:Tryz.pinned.checked.prog.funcNamed "switchyard/switchyardlaw.Parses" = V f) (b:Tryz.pinned.checked.prog.funcs[f]?=V a) :
  true=Tryz.pinned.checked.prog.looks []/\∀(j:Nat) t,a.params[j]?=V t->Tryz.pinned.checked.prog.wantsStandIn t=false:=by
 obtain rfl:f=5:=Bc ((show prog.funcNamed "switchyard/switchyardlaw.Parses" = V 5 by kernel_rfl).symm.trans c) |>.symm
 obtain rfl:a=Tryz.f5:=(Bc (func5.symm.trans b)).symm;refine⟨by kernel_rfl,fun j t ht=>?_⟩;rw[params5] at ht;obtain rfl:t=25:=by simpa using Array.mem_of_getElem? ht
 exact(show prog.wantsStandIn 25=false by kernel_rfl)
theorem parses_card:Rows.ParsesUptoCardSaid:=
 Claim7.holds_tied_plain_at .later [] _ _ _ _ lL (fun _ h=>by cases h) (by kernel_rfl) (fun _ h=>by cases h) parsesUpto_row_tie rfl ⟨rfl,rfl⟩ (by kernel_rfl) rfl aQ (ze3 Rows.parsesUptoRow rfl)
#print axioms parses_card
end Go.Proofs.YtfocdefchbnkpaaGreatDoor
