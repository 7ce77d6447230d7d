/- What the rows' list gives the walks (the powers of ten, a number in bytealg.MaxLen), and a world that has all of it. -/
import Derived.Test.YtfocdefchbnkpaaGreatDoorAli
import Derived.Test.YtfocdefchbnkpaaGreatDoorRows
import Derived.Test.YtfocdefchbnkpaaGreatDoorProZ5
import Derived.Lib.LaidTab
import Derived.Stop.LaidErr
import Derived.Stop.Joined
import Derived.Shelf.Vars
import Derived.Lay
import Derived.MakeChecks
set_option maxRecDepth 100000
set_option maxHeartbeats 20000000
namespace Go.Proofs.YtfocdefchbnkpaaGreatDoor
open Go.RowKit
theorem zmA:ownKnob Tryz.prog.godebug=none:=by kernel_rfl
theorem zc0:laidOutB Tryz.prog=true:=by kernel_rfl
theorem zjT {W:World}(h:W.ShapedOpen Tryz.prog):Glob W:=
 cell_of_shapedOpen_int (t:=3) (zero:=#[.int .i64 0]) h (of_decide_eq_true (by kernel_rfl)) (by kernel_rfl) rfl (by kernel_rfl) (by kernel_rfl) Tryz.underlying3
theorem zmB {W:World}(h:laidMetH Tryz.prog Rows.plainsRow.laid W):GT W:=by
 rw[MakeChecks.laidMetH_plain _ _ _ (by kernel_rfl)] at h
 have e:(Rows.laid_internal_strconv_uint64pow10:DataW Unit)=Lib.tabData .u64 Lib.pow10Tab:=by kernel_rfl
 have h1:=laidMet.tail (laidMet.tail h)
 rw[e] at h1
 exact Lib.tabIs_of_head (g:=(((Tryz.prog).globalNamed "internal/strconv.uint64pow10").getD 0)) (by kernel_rfl) (by kernel_rfl) Tryz.underlying441 Tryz.underlying60 (by kernel_rfl) (by kernel_rfl) h1
theorem zmC (os:Os)(aa:Array Value):laidMetH Tryz.prog Rows.plainsRow.laid ((World.laidAll Tryz.prog os Rows.plainsRow.laid).forCall (fun _ _=>0) ⟨#[],aa,[]⟩).memory:=by
 rw[MakeChecks.laidMetH_plain _ _ _ (by kernel_rfl)]
 exact laidMet_laidAll _ (by kernel_rfl) (by kernel_rfl)
theorem ze6 {H:Type}{enc:TypeId×Value->H}{os:Os}{f:FuncId}{fn:Func}{s:OpenSpec}{ae:List PathCond}{ad:Bool}{ag:List (String×DataW Unit)}(w0:World)(aa:Array Value)(ah:w0.os=os)
  (aj:(w0.forCall (fun _ _=>0) ⟨#[],aa,[]⟩).Shaped Tryz.checked.prog)
  (af:Input.okWideB Tryz.checked.prog (w0.forCall (fun _ _=>0) ⟨#[],aa,[]⟩) f ⟨#[],aa,[]⟩=true)
  (ai:s.preRow enc Tryz.checked.prog fn ae ad ag (w0.forCall (fun _ _=>0) ⟨#[],aa,[]⟩).memory aa) :
  ∃(w:World) (ab:Tape) (i:Input),w.os=os/\(w.forCall ab i).Shaped Tryz.checked.prog/\i.vars=[]/\Input.okWide Tryz.checked.prog (w.forCall ab i) .any w.heap.size f i/\
   s.preRow enc Tryz.checked.prog fn ae ad ag (w.forCall ab i).memory i.args/\({}:Assume).holds Tryz.checked.prog (lone (Frame.enter Tryz.checked.prog f i.args .normal) [] (w.forCall ab i)):=
 ⟨w0,fun _ _=>0,⟨#[],aa,[]⟩,ah,aj,(Input.okWide_of_okWideB (base:=0) af).1,(Input.okWide_of_okWideB af).2,ai,by
  simp only[Assume.holds]
  exact⟨by simp,by simp,by simp,by simp,by simp⟩⟩
theorem ze7 (os:Os)(aa:Array Value):((World.laidAll Tryz.prog os Rows.plainsRow.laid).forCall (fun _ _=>0) ⟨#[],aa,[]⟩).Shaped Tryz.prog:=
 World.shaped_of_ZipB (by kernel_rfl) (by kernel_rfl)
theorem zh6 {a b:World}(h:a.grownBy b none):Below a.heap.size a b:=⟨h.os,h.tape,h.output,h.size,fun k hk=>h.block k hk (by simp)⟩
end Go.Proofs.YtfocdefchbnkpaaGreatDoor
