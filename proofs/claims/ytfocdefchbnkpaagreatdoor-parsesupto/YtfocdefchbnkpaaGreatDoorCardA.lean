/- What the rows' list gives the walks (the powers of ten, a number in bytealg.MaxLen), and a world that has all of it. -/
import Derived.Test.YtfocdefchbnkpaaGreatDoorRows
import Derived.Test.YtfocdefchbnkpaaGreatDoorKpC
import Derived.Stop.LaidErr
import Derived.Stop.Joined
import Derived.Lay
import Derived.MakeChecks
set_option maxRecDepth 100000
set_option maxHeartbeats 20000000
namespace Go.Proofs.YtfocdefchbnkpaaGreatDoor
open Go.RowKit Proofs.Tryz
theorem zh1:ownKnob prog.godebug=none:=by kernel_rfl
theorem aG:laidOutB prog=true:=by kernel_rfl
theorem rL {W:World}(h:W.ShapedOpen prog):Glob W:=
 cell_of_shapedOpen_int (t:=3) (zero:=#[.int .i64 0]) h (Iz (by kernel_rfl)) (by kernel_rfl) rfl (by kernel_rfl) (by kernel_rfl) underlying3
theorem iR {W:World}(h:laidMetH prog Rows.plainsRow.laid W):GT W:=by
 rw[MakeChecks.laidMetH_plain _ _ _ (by kernel_rfl)] at h;have e:(Rows.laid_internal_strconv_uint64pow10:DataW Unit)=Lib.tabData .u64 Lib.pow10Tab:=by kernel_rfl
 have a:=laidMet.tail (laidMet.tail h);rw[e] at a;exact Lib.tabIs_of_head (g:=(((prog).globalNamed "internal/strconv.uint64pow10").getD 0)) (by kernel_rfl) (by kernel_rfl) underlying441 underlying60 (by kernel_rfl) (by kernel_rfl) a
theorem zh2 (b:Os)(a:Array Value):laidMetH prog Rows.plainsRow.laid ((World.laidAll prog b Rows.plainsRow.laid).forCall (fun _ _=>0) ⟨#[],a,[]⟩).memory:=by
 rw[MakeChecks.laidMetH_plain _ _ _ (by kernel_rfl)];exact laidMet_laidAll _ (by kernel_rfl) (by kernel_rfl)
theorem iS {H:Type}{enc:TypeId×Value->H}{n:Os}{f:FuncId}{m:Func}{s:OpenSpec}{d:List PathCond}{c:Bool}{g:List (String×DataW Unit)}(w0:World)(a:Array Value)(k:w0.os=n)
  (l:(w0.forCall (fun _ _=>0) ⟨#[],a,[]⟩).Shaped Tryz.checked.prog)
  (h:Input.okWideB Tryz.checked.prog (w0.forCall (fun _ _=>0) ⟨#[],a,[]⟩) f ⟨#[],a,[]⟩=true)
  (j:s.preRow enc Tryz.checked.prog m d c g (w0.forCall (fun _ _=>0) ⟨#[],a,[]⟩).memory a) :
  ∃(w:World) (b:Tape) (i:Input),w.os=n/\(w.forCall b i).Shaped Tryz.checked.prog/\i.vars=[]/\Input.okWide Tryz.checked.prog (w.forCall b i) .any w.heap.size f i/\
   s.preRow enc Tryz.checked.prog m d c g (w.forCall b i).memory i.args/\({}:Assume).holds Tryz.checked.prog (lone (Frame.enter Tryz.checked.prog f i.args .normal) [] (w.forCall b i)):=
 ⟨w0,fun _ _=>0,⟨#[],a,[]⟩,k,l,(Input.okWide_of_okWideB (base:=0) h).1,(Input.okWide_of_okWideB h).2,j,by
  simp only[Assume.holds];exact⟨by simp,by simp,by simp,by simp,by simp⟩⟩
theorem iT (b:Os)(a:Array Value):((World.laidAll prog b Rows.plainsRow.laid).forCall (fun _ _=>0) ⟨#[],a,[]⟩).Shaped prog:=
 World.shaped_of_ZipB (by kernel_rfl) (by kernel_rfl)
theorem zaV {a b:World}(h:a.grownBy b none):Below a.heap.size a b:=⟨h.os,h.tape,h.output,h.size,fun k hk=>h.block k hk (by simp)⟩
end Go.Proofs.YtfocdefchbnkpaaGreatDoor
