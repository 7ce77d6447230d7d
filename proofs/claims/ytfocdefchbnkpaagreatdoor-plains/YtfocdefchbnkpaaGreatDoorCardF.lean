/- The closed facts that the form asks of the row of Plains, each for itself. -/
import Derived.Test.YtfocdefchbnkpaaGreatDoorRows
import Derived.JoinedCond
namespace Go.Proofs.YtfocdefchbnkpaaGreatDoor
open Go

theorem plains_fact0 : (Rows.plainsRow.wf (OpenSpec.ofChange (OpenSpec.ofChange Rows.plainsSpec).bare)) = true := by kernel_rfl
theorem plains_fact1 : (laidOutB Tryz.pinned.checked.prog) = true := by kernel_rfl
theorem plains_fact2 : (mapsRowed Tryz.pinned.checked.prog) = true := by kernel_rfl
theorem plains_fact3 : (Tryz.f3.params.all (Tryz.pinned.checked.prog.readableRec ·)) = true := by kernel_rfl
theorem plains_fact4 : (namedTie Tryz.pinned.checked.prog Rows.plainsRow.named (OpenSpec.ofChange Rows.plainsSpec).bare.vars) = true := by kernel_rfl
theorem plains_fact5 : ((Rows.plainsRow.stops == [])) = true := by kernel_rfl
theorem plains_fact6 : ((Tryz.pinned.checked.prog.stops == [])) = true := by kernel_rfl
theorem plains_fact7 : ((Rows.plainsRow.knobs == [])) = true := by kernel_rfl
theorem plains_fact8 : ((Tryz.pinned.checked.prog.stopKnobs == [])) = true := by kernel_rfl
theorem plains_fact9 : ((Rows.plainsRow.inPlace == Tryz.pinned.checked.prog.inPlace 3)) = true := by kernel_rfl
theorem plains_fact10 : ((Rows.plainsRow.unfollowed == Tryz.pinned.checked.prog.unfollowed 3)) = true := by kernel_rfl
theorem plains_fact11 : ((Rows.plainsRow.recurses == Tryz.pinned.checked.prog.recurses 3)) = true := by kernel_rfl
theorem plains_fact12 : ((Rows.plainsRow.named == Tryz.pinned.checked.prog.varsNamed 3)) = true := by kernel_rfl
theorem plains_fact13 : ((Rows.plainsRow.maps == (Tryz.f3.params.toList ++ (OpenSpec.ofChange Rows.plainsSpec).bare.plain.varTypes Tryz.pinned.checked.prog).any (Tryz.pinned.checked.prog.mapsRec ·))) = true := by kernel_rfl
theorem plains_fact14 : ((Rows.plainsRow.ifaces == (Tryz.f3.params.toList ++ (OpenSpec.ofChange Rows.plainsSpec).bare.plain.varTypes Tryz.pinned.checked.prog).any (Tryz.pinned.checked.prog.ifacesRec ·))) = true := by kernel_rfl
theorem plains_fact15 : ((Rows.plainsRow.mapsOut == Tryz.pinned.checked.prog.mapsAmong Tryz.f3.resultTypes.toList)) = true := by kernel_rfl
theorem plains_fact16 : ((Rows.plainsRow.loops == (Tryz.f3.params.toList ++ (OpenSpec.ofChange Rows.plainsSpec).bare.plain.varTypes Tryz.pinned.checked.prog).any (Tryz.pinned.checked.prog.loopsFrom ·))) = true := by kernel_rfl
theorem plains_fact17 : ((Rows.plainsRow.wideKeys == (Tryz.f3.params.toList ++ (OpenSpec.ofChange Rows.plainsSpec).bare.plain.varTypes Tryz.pinned.checked.prog ++ Tryz.f3.resultTypes.toList).any (Tryz.pinned.checked.prog.wideKeysFrom ·))) = true := by kernel_rfl
theorem plains_fact18 : ((OpenSpec.ofChange Rows.plainsSpec).bare.vars.all (Tryz.pinned.checked.prog.varReadable ·)) = true := by kernel_rfl
theorem plains_fact19 : (Tryz.f3.resultTypes.all (fun t => Tryz.pinned.checked.prog.readableRec t && decide (t < Tryz.pinned.checked.prog.types.size))) = true := by kernel_rfl
theorem plains_fact20 : ((Rows.plainsRow.ifacesOut == Tryz.f3.resultTypes.toList.any (Tryz.pinned.checked.prog.ifacesRec ·))) = true := by kernel_rfl
theorem plains_fact21 : ((Rows.plainsRow.loopsOut == Tryz.f3.resultTypes.toList.any (Tryz.pinned.checked.prog.loopsFrom ·))) = true := by kernel_rfl
theorem plains_fact22 : ((Rows.plainsRow.plainKeys == Tryz.pinned.checked.prog.plainKeys)) = true := by kernel_rfl
theorem plains_fact23 : (Rows.plainsRow.shortTexts.isNone) = true := by kernel_rfl
theorem plains_fact24 : (Tryz.pinned.checked.prog.stopsHeard) = true := by kernel_rfl
theorem plains_fact25 : (Tryz.pinned.checked.prog.mayEnter) = true := by kernel_rfl
theorem plains_fact26 : ((Rows.plainsRow.lifted == Tryz.pinned.checked.prog.liftsFinal)) = true := by kernel_rfl
theorem plains_fact27 : ((Tryz.pinned.checked.prog.make == some Rows.plainsRow.make)) = true := by kernel_rfl
theorem plains_fact28 : ((Rows.plainsRow.kinds == (if Rows.plainsRow.domain.isEmpty then [] else Tryz.f3.params.toList.map fun t => match Tryz.pinned.checked.prog.underlying t with | some (.int k) => some k | _ => none))) = true := by kernel_rfl
theorem plains_fact29 : ((Rows.plainsRow.pinned == Rows.plainsRow.pinnedBy)) = true := by kernel_rfl
theorem plains_fact30 : ((Rows.plainsRow.veiled == (Tryz.f3.params.toList ++ (OpenSpec.ofChange Rows.plainsSpec).bare.plain.varTypes Tryz.pinned.checked.prog ++ Tryz.f3.resultTypes.toList).any (Tryz.pinned.checked.prog.veiledRec ·))) = true := by kernel_rfl
theorem plains_fact31 : (Rows.plainsRow.veiledFits Tryz.pinned.checked.prog Tryz.f3.params.toList (Tryz.f3.params.toList ++ (OpenSpec.ofChange Rows.plainsSpec).bare.plain.varTypes Tryz.pinned.checked.prog ++ Tryz.f3.resultTypes.toList)) = true := by kernel_rfl
end Go.Proofs.YtfocdefchbnkpaaGreatDoor

/- The closed facts of the row of Plains, put together. -/
namespace Go.Proofs.YtfocdefchbnkpaaGreatDoor
open Go
theorem and_true2 {a b : Bool} (ha : a = true) (hb : b = true) : (a && b) = true := by rw [ha, hb]; rfl
set_option maxRecDepth 100000 in
theorem plains_closed : joinedFacts Tryz.pinned.checked.prog 3 Tryz.f3 (OpenSpec.ofChange Rows.plainsSpec).bare Rows.plainsRow = true := by
  unfold joinedFacts
  exact and_true2 (and_true2 (and_true2 (and_true2 (and_true2 (and_true2 (and_true2 (and_true2 (and_true2 (and_true2 (and_true2 (and_true2 (and_true2 (and_true2 (and_true2 (and_true2 (and_true2 (and_true2 (and_true2 (and_true2 (and_true2 (and_true2 (and_true2 (and_true2 (and_true2 (and_true2 (and_true2 (and_true2 (and_true2 (and_true2 (and_true2 (plains_fact0) plains_fact1) plains_fact2) plains_fact3) plains_fact4) plains_fact5) plains_fact6) plains_fact7) plains_fact8) plains_fact9) plains_fact10) plains_fact11) plains_fact12) plains_fact13) plains_fact14) plains_fact15) plains_fact16) plains_fact17) plains_fact18) plains_fact19) plains_fact20) plains_fact21) plains_fact22) plains_fact23) plains_fact24) plains_fact25) plains_fact26) plains_fact27) plains_fact28) plains_fact29) plains_fact30) plains_fact31
end Go.Proofs.YtfocdefchbnkpaaGreatDoor
