/- The closed facts that the form asks of the row of Parses, each for itself, and put together. -/
import Derived.Test.YtfocdefchbnkpaaGreatDoorCardFP
set_option maxRecDepth 100000
set_option maxHeartbeats 20000000
namespace Go.Proofs.YtfocdefchbnkpaaGreatDoor
open Go Proofs.Tryz
theorem dT:(Rows.parsesUptoRow.wf (OpenSpec.ofChange (Rows.OpenSpec.upto Rows.parsesSpec).bare))=true:=by kernel_rfl
theorem dU:(laidOutB Tryz.pinned.checked.prog)=true:=by kernel_rfl
theorem dV:(mapsRowed Tryz.pinned.checked.prog)=true:=by kernel_rfl
theorem dW:(Tryz.f5.params.all (Tryz.pinned.checked.prog.readableRec ·))=true:=by kernel_rfl
theorem dX:(namedTie Tryz.pinned.checked.prog Rows.parsesUptoRow.named (Rows.OpenSpec.upto Rows.parsesSpec).bare.vars)=true:=by kernel_rfl
theorem dY:((Rows.parsesUptoRow.stops == []))=true:=by kernel_rfl
theorem dZ:((Tryz.pinned.checked.prog.stops == []))=true:=by kernel_rfl
theorem db:((Rows.parsesUptoRow.knobs == []))=true:=by kernel_rfl
theorem dd:((Tryz.pinned.checked.prog.stopKnobs == []))=true:=by kernel_rfl
theorem de:((Rows.parsesUptoRow.inPlace == Tryz.pinned.checked.prog.inPlace 5))=true:=by kernel_rfl
theorem bj:((Rows.parsesUptoRow.unfollowed == Tryz.pinned.checked.prog.unfollowed 5))=true:=by kernel_rfl
theorem bm:((Rows.parsesUptoRow.recurses == Tryz.pinned.checked.prog.recurses 5))=true:=by kernel_rfl
theorem bo:((Rows.parsesUptoRow.named == Tryz.pinned.checked.prog.varsNamed 5))=true:=by kernel_rfl
theorem bp:((Rows.parsesUptoRow.maps == (Tryz.f5.params.toList++(Rows.OpenSpec.upto Rows.parsesSpec).bare.plain.varTypes Tryz.pinned.checked.prog).any (Tryz.pinned.checked.prog.mapsRec ·)))=true:=by kernel_rfl
theorem bt:((Rows.parsesUptoRow.ifaces == (Tryz.f5.params.toList++(Rows.OpenSpec.upto Rows.parsesSpec).bare.plain.varTypes Tryz.pinned.checked.prog).any (Tryz.pinned.checked.prog.ifacesRec ·)))=true:=by kernel_rfl
theorem bu:((Rows.parsesUptoRow.mapsOut == Tryz.pinned.checked.prog.mapsAmong Tryz.f5.resultTypes.toList))=true:=by kernel_rfl
theorem bx:((Rows.parsesUptoRow.loops == (Tryz.f5.params.toList++(Rows.OpenSpec.upto Rows.parsesSpec).bare.plain.varTypes Tryz.pinned.checked.prog).any (Tryz.pinned.checked.prog.loopsFrom ·)))=true:=by kernel_rfl
theorem bz:((Rows.parsesUptoRow.wideKeys == (Tryz.f5.params.toList++(Rows.OpenSpec.upto Rows.parsesSpec).bare.plain.varTypes Tryz.pinned.checked.prog++Tryz.f5.resultTypes.toList).any (Tryz.pinned.checked.prog.wideKeysFrom ·)))=true:=by kernel_rfl
theorem cA:((Rows.OpenSpec.upto Rows.parsesSpec).bare.vars.all (Tryz.pinned.checked.prog.varReadable ·))=true:=by kernel_rfl
theorem cB:(Tryz.f5.resultTypes.all (fun t=>Tryz.pinned.checked.prog.readableRec t && decide (t<Tryz.pinned.checked.prog.types.size)))=true:=by kernel_rfl
theorem cC:((Rows.parsesUptoRow.ifacesOut == Tryz.f5.resultTypes.toList.any (Tryz.pinned.checked.prog.ifacesRec ·)))=true:=by kernel_rfl
theorem cD:((Rows.parsesUptoRow.loopsOut == Tryz.f5.resultTypes.toList.any (Tryz.pinned.checked.prog.loopsFrom ·)))=true:=by kernel_rfl
theorem cE:((Rows.parsesUptoRow.plainKeys == Tryz.pinned.checked.prog.plainKeys))=true:=by kernel_rfl
theorem cF:(Rows.parsesUptoRow.shortTexts.isNone)=true:=by kernel_rfl
theorem cG:(Tryz.pinned.checked.prog.stopsHeard)=true:=by kernel_rfl
theorem cI:(Tryz.pinned.checked.prog.mayEnter)=true:=by kernel_rfl
theorem cJ:((Rows.parsesUptoRow.lifted == Tryz.pinned.checked.prog.liftsFinal))=true:=by kernel_rfl
theorem cK:((Tryz.pinned.checked.prog.make == some Rows.parsesUptoRow.make))=true:=by kernel_rfl
theorem cL:((Rows.parsesUptoRow.kinds == (if Rows.parsesUptoRow.domain.isEmpty then [] else Tryz.f5.params.toList.map fun t=>match Tryz.pinned.checked.prog.underlying t with | some (.int k)=>some k | _=>none)))=true:=by kernel_rfl
theorem cM:((Rows.parsesUptoRow.pinned == Rows.parsesUptoRow.pinnedBy))=true:=by kernel_rfl
theorem cO:((Rows.parsesUptoRow.veiled == (Tryz.f5.params.toList++(Rows.OpenSpec.upto Rows.parsesSpec).bare.plain.varTypes Tryz.pinned.checked.prog++Tryz.f5.resultTypes.toList).any (Tryz.pinned.checked.prog.veiledRec ·)))=true:=by kernel_rfl
theorem cP:(Rows.parsesUptoRow.veiledFits Tryz.pinned.checked.prog Tryz.f5.params.toList (Tryz.f5.params.toList++(Rows.OpenSpec.upto Rows.parsesSpec).bare.plain.varTypes Tryz.pinned.checked.prog++Tryz.f5.resultTypes.toList))=true:=by kernel_rfl
theorem bi:joinedFacts Tryz.pinned.checked.prog 5 Tryz.f5 (Rows.OpenSpec.upto Rows.parsesSpec).bare Rows.parsesUptoRow=true:=by
 unfold joinedFacts;exact qZ (qZ (qZ (qZ (qZ (qZ (qZ (qZ (qZ (qZ (qZ (qZ (qZ (qZ (qZ (qZ (qZ (qZ (qZ (qZ (qZ (qZ (qZ (qZ (qZ (qZ (qZ (qZ (qZ (qZ (qZ (dT) dU) dV) dW) dX) dY) dZ) db) dd) de) bj) bm) bo) bp) bt) bu) bx) bz) cA) cB) cC) cD) cE) cF) cG) cI) cJ) cK) cL) cM) cO) cP
end Go.Proofs.YtfocdefchbnkpaaGreatDoor
