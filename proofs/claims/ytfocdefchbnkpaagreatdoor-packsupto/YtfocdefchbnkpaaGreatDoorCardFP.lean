/- The closed facts that the form asks of the row of Packs, each for itself, and put together. -/
import Derived.Test.YtfocdefchbnkpaaGreatDoorAli
import Derived.Test.YtfocdefchbnkpaaGreatDoorRows
import Derived.JoinedCond
set_option maxRecDepth 100000
set_option maxHeartbeats 20000000
namespace Go.Proofs.YtfocdefchbnkpaaGreatDoor
open Go
theorem zbW:(Rows.packsUptoRow.wf (OpenSpec.ofChange (Rows.OpenSpec.upto Rows.packsSpec).bare))=true:=by kernel_rfl
theorem zbP:(laidOutB Tryz.pinned.checked.prog)=true:=by kernel_rfl
theorem zbU:(mapsRowed Tryz.pinned.checked.prog)=true:=by kernel_rfl
theorem zbM:(Tryz.f4.params.all (Tryz.pinned.checked.prog.readableRec ·))=true:=by kernel_rfl
theorem zbT:(namedTie Tryz.pinned.checked.prog Rows.packsUptoRow.named (Rows.OpenSpec.upto Rows.packsSpec).bare.vars)=true:=by kernel_rfl
theorem zbK:((Rows.packsUptoRow.stops == []))=true:=by kernel_rfl
theorem zbS:((Tryz.pinned.checked.prog.stops == []))=true:=by kernel_rfl
theorem zbO:((Rows.packsUptoRow.knobs == []))=true:=by kernel_rfl
theorem zbN:((Tryz.pinned.checked.prog.stopKnobs == []))=true:=by kernel_rfl
theorem zbV:((Rows.packsUptoRow.inPlace == Tryz.pinned.checked.prog.inPlace 4))=true:=by kernel_rfl
theorem tj:((Rows.packsUptoRow.unfollowed == Tryz.pinned.checked.prog.unfollowed 4))=true:=by kernel_rfl
theorem tu:((Rows.packsUptoRow.recurses == Tryz.pinned.checked.prog.recurses 4))=true:=by kernel_rfl
theorem zaC:((Rows.packsUptoRow.named == Tryz.pinned.checked.prog.varsNamed 4))=true:=by kernel_rfl
theorem za0:((Rows.packsUptoRow.maps == (Tryz.f4.params.toList++(Rows.OpenSpec.upto Rows.packsSpec).bare.plain.varTypes Tryz.pinned.checked.prog).any (Tryz.pinned.checked.prog.mapsRec ·)))=true:=by kernel_rfl
theorem zaY:((Rows.packsUptoRow.ifaces == (Tryz.f4.params.toList++(Rows.OpenSpec.upto Rows.packsSpec).bare.plain.varTypes Tryz.pinned.checked.prog).any (Tryz.pinned.checked.prog.ifacesRec ·)))=true:=by kernel_rfl
theorem zaN:((Rows.packsUptoRow.mapsOut == Tryz.pinned.checked.prog.mapsAmong Tryz.f4.resultTypes.toList))=true:=by kernel_rfl
theorem zaE:((Rows.packsUptoRow.loops == (Tryz.f4.params.toList++(Rows.OpenSpec.upto Rows.packsSpec).bare.plain.varTypes Tryz.pinned.checked.prog).any (Tryz.pinned.checked.prog.loopsFrom ·)))=true:=by kernel_rfl
theorem zb0:((Rows.packsUptoRow.wideKeys == (Tryz.f4.params.toList++(Rows.OpenSpec.upto Rows.packsSpec).bare.plain.varTypes Tryz.pinned.checked.prog++Tryz.f4.resultTypes.toList).any (Tryz.pinned.checked.prog.wideKeysFrom ·)))=true:=by kernel_rfl
theorem zaP:((Rows.OpenSpec.upto Rows.packsSpec).bare.vars.all (Tryz.pinned.checked.prog.varReadable ·))=true:=by kernel_rfl
theorem zaU:(Tryz.f4.resultTypes.all (fun t=>Tryz.pinned.checked.prog.readableRec t && decide (t<Tryz.pinned.checked.prog.types.size)))=true:=by kernel_rfl
theorem zaF:((Rows.packsUptoRow.ifacesOut == Tryz.f4.resultTypes.toList.any (Tryz.pinned.checked.prog.ifacesRec ·)))=true:=by kernel_rfl
theorem tz:((Rows.packsUptoRow.loopsOut == Tryz.f4.resultTypes.toList.any (Tryz.pinned.checked.prog.loopsFrom ·)))=true:=by kernel_rfl
theorem ti:((Rows.packsUptoRow.plainKeys == Tryz.pinned.checked.prog.plainKeys))=true:=by kernel_rfl
theorem zaQ:(Rows.packsUptoRow.shortTexts.isNone)=true:=by kernel_rfl
theorem zaV:(Tryz.pinned.checked.prog.stopsHeard)=true:=by kernel_rfl
theorem za6:(Tryz.pinned.checked.prog.mayEnter)=true:=by kernel_rfl
theorem zaJ:((Rows.packsUptoRow.lifted == Tryz.pinned.checked.prog.liftsFinal))=true:=by kernel_rfl
theorem zaS:((Tryz.pinned.checked.prog.make == some Rows.packsUptoRow.make))=true:=by kernel_rfl
theorem za2:((Rows.packsUptoRow.kinds == (if Rows.packsUptoRow.domain.isEmpty then [] else Tryz.f4.params.toList.map fun t=>match Tryz.pinned.checked.prog.underlying t with | some (.int k)=>some k | _=>none)))=true:=by kernel_rfl
theorem tf:((Rows.packsUptoRow.pinned == Rows.packsUptoRow.pinnedBy))=true:=by kernel_rfl
theorem zaB:((Rows.packsUptoRow.veiled == (Tryz.f4.params.toList++(Rows.OpenSpec.upto Rows.packsSpec).bare.plain.varTypes Tryz.pinned.checked.prog++Tryz.f4.resultTypes.toList).any (Tryz.pinned.checked.prog.veiledRec ·)))=true:=by kernel_rfl
theorem zaG:(Rows.packsUptoRow.veiledFits Tryz.pinned.checked.prog Tryz.f4.params.toList (Tryz.f4.params.toList++(Rows.OpenSpec.upto Rows.packsSpec).bare.plain.varTypes Tryz.pinned.checked.prog++Tryz.f4.resultTypes.toList))=true:=by kernel_rfl
theorem qm {a b:Bool}(ha:a=true)(hb:b=true):(a && b)=true:=by rw[ha,hb];rfl
theorem td:joinedFacts Tryz.pinned.checked.prog 4 Tryz.f4 (Rows.OpenSpec.upto Rows.packsSpec).bare Rows.packsUptoRow=true:=by
 unfold joinedFacts
 exact qm (qm (qm (qm (qm (qm (qm (qm (qm (qm (qm (qm (qm (qm (qm (qm (qm (qm (qm (qm (qm (qm (qm (qm (qm (qm (qm (qm (qm (qm (qm (zbW) zbP) zbU) zbM) zbT) zbK) zbS) zbO) zbN) zbV) tj) tu) zaC) za0) zaY) zaN) zaE) zb0) zaP) zaU) zaF) tz) ti) zaQ) zaV) za6) zaJ) zaS) za2) tf) zaB) zaG
end Go.Proofs.YtfocdefchbnkpaaGreatDoor
