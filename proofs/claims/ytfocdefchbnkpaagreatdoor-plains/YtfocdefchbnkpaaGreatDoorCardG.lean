/- No function of the program starts a goroutine. -/
import Derived.Test.YtfocdefchbnkpaaGreatDoorProg
import GoSem.ClaimGoes
import GoSem.ClaimSeven
import Derived.RowKit
namespace Go.Proofs.YtfocdefchbnkpaaGreatDoor
open Go.RowKit

theorem card_nogo : (Tryz.prog).funcs.any Func.goes = false := by kernel_rfl
theorem card_goes0 (f : FuncId) : (Tryz.prog).goes f = false := by
  unfold Program.goes
  rw [card_nogo, Bool.and_false, Bool.or_false, List.any_eq_false]
  intro g _
  have h := Array.any_eq_false.1 card_nogo
  cases hg : (Tryz.prog).funcs[g]? with
  | none => simp
  | some fn =>
    obtain ⟨hl, hgf⟩ := Array.getElem?_eq_some_iff.1 hg
    have := h g hl
    rw [hgf] at this
    simpa using this
theorem card_goes (c : OpenClaim) (hs : c.start = .entering) : false = c.goesBy Tryz.prog := by
  unfold OpenClaim.goesBy Program.goesAt Program.goesFrom
  rw [hs]
  cases h : (Tryz.prog).funcNamed c.func with
  | none => rfl
  | some f => simp [card_goes0 f]
end Go.Proofs.YtfocdefchbnkpaaGreatDoor
