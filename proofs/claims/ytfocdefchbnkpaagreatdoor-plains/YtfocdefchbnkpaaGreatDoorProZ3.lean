/- The writer of a policy: what it has written. -/
import Derived.Test.YtfocdefchbnkpaaGreatDoorEqE
import Derived.Shelf.RegionOpenPlain
namespace Go.Proofs.YtfocdefchbnkpaaGreatDoor
open Go.RowKit

theorem PZ.cells8 : (Tryz.prog).cellsOf 5 = 1 := by kernel_rfl
set_option maxRecDepth 100000 in
set_option maxHeartbeats 2000000 in
theorem pro_wString {w : World} {wb : Nat} {l : List UInt8} {op : Int} (h : WInv w wb l op) (h0 : l ≠ []) :
    Calls Tryz.prog 69 #[.pointer (some ⟨wb, 0, none⟩)] w fun e w' => e = .returned (.string (R.str l)) ∧ Kept wb wtags w w' := by
  obtain ⟨p, v, hbk, hown⟩ : ∃ p v, w.heap[wb]? = some (.cells #[p, v, .int .i64 op] 143 (0, 0)) ∧ w.ownsRow (wb + 1) 5 1 v l.length (Lib.byteCells l) := by
    rcases h with ⟨v, h1, h2⟩ | ⟨v, h1, h2⟩
    · exact ⟨_, v, h1, h2⟩
    · exact ⟨_, v, h1, h2⟩
  have hl0 : l.length ≠ 0 := by simpa using h0
  obtain ⟨g, cap, cur, rfl, hbg, hg, hnc, hcm, hcs, htake⟩ : ∃ g cap cur, v = .slice (some ⟨g, 0, none⟩) l.length cap ∧ wb + 1 ≤ g ∧ w.heap[g]? = some (.cells cur 5 (0, 0)) ∧ l.length ≤ cap ∧ cap ≤ maxLen ∧ cur.size = cap * 1 ∧ cur.toList.take (l.length * 1) = Lib.byteCells l := by
    rcases hown.2 with ⟨_, hz⟩ | ⟨g, cap, cur, hv, r⟩
    · exact absurd hz hl0
    · exact ⟨g, cap, cur, hv, r⟩
  have c1 : w.drew.cell? ⟨wb, 1, none⟩ = some (.slice (some ⟨g, 0, none⟩) l.length cap) := by
    have h1 : w.drew.heap[wb]? = some (.cells #[p, .slice (some ⟨g, 0, none⟩) l.length cap, .int .i64 op] 143 (0, 0)) := hbk
    exact cell_of_block h1
  have hSD : (Builtin.unsafeSliceData_ #[32] 215 #[.slice (some ⟨g, 0, none⟩) l.length cap]).run Tryz.prog w.drew = .ok (.pointer (some ⟨g, 0, none⟩)) w.drew :=
    Lib.run_unsafeSliceData_row _ _ _ _ _ _ (by omega)
  have hUS : (Builtin.unsafeString_ #[215, 3] 9 #[.pointer (some ⟨g, 0, none⟩), .int .i64 l.length]).run Tryz.prog w.drew = .ok (.string ⟨l.toArray⟩) (w.drew.freeze ⟨g, 0, none⟩ l.length) := by
    refine Lib.run_unsafeString_row w.drew 215 3 9 5 Tryz.underlying215 PZ.cells8 g cur.size (by have hg' : w.drew.heap[g]? = some (.cells cur 5 (0, 0)) := hg; simp [World.shape?, hg']) l h0 (by omega) (by unfold maxLen at hcm; omega) ?_
    intro j x hx
    have := hown.cells (g := g) rfl j (.int .u8 x.toNat) (by simp [Lib.byteCells, hx])
    exact this
  have HK : Hid (Kept wb wtags w (w.drew.freeze ⟨g, 0, none⟩ l.length)) := by
    have hne : ∀ k, k ≠ g → (w.drew.freeze ⟨g, 0, none⟩ l.length).heap[k]? = w.heap[k]? := by
      intro k hk
      show ((w.drew).freeze ⟨g, 0, none⟩ l.length).heap[k]? = (w.drew).heap[k]?
      generalize w.drew = wd
      simp [World.freeze, h0, Array.getElem?_modify, Ne.symm hk]
    have hsz : w.heap.size ≤ (w.drew.freeze ⟨g, 0, none⟩ l.length).heap.size := by
      show (w.drew).heap.size ≤ _
      generalize w.drew = wd
      simp [World.freeze, h0]
    have hos : (w.drew.freeze ⟨g, 0, none⟩ l.length).os = w.os ∧ (w.drew.freeze ⟨g, 0, none⟩ l.length).tape = w.tape ∧ (w.drew.freeze ⟨g, 0, none⟩ l.length).output = w.output := by
      show _ = (w.drew).os ∧ _ = (w.drew).tape ∧ _ = (w.drew).output
      generalize w.drew = wd
      simp [World.freeze, h0]
    refine ⟨hos.1, hos.2.1, hos.2.2, hsz, fun k hk ht => hne k (fun e => ?_)⟩
    subst e
    rcases ht with ht | ht
    · omega
    · exact ht _ _ _ hg (by decide)
  have mixed : (Tryz.prog).follows Departure.mixedOrders = true := by kernel_rfl
  clear h hown htake hbk
  go_enter Tryz.func69, Tryz.ntmps69
  go_wp2
  go_region_o
  all_goals (go_wp2; go_ret; exact ⟨rfl, HK.out⟩)
end Go.Proofs.YtfocdefchbnkpaaGreatDoor

/- The writer of a policy: what it has written, if that is nothing. -/
namespace Go.Proofs.YtfocdefchbnkpaaGreatDoor
open Go.RowKit

set_option maxRecDepth 100000 in
set_option maxHeartbeats 2000000 in
theorem pro_wString0 {w : World} {wb : Nat} {p : Value} {op : Int} (hbk : w.heap[wb]? = some (.cells #[p, .slice none 0 0, .int .i64 op] 143 (0, 0))) :
    Calls Tryz.prog 69 #[.pointer (some ⟨wb, 0, none⟩)] w fun e w' => e = .returned (.string (R.str [])) ∧ Kept wb wtags w w' := by
  have c1 : w.drew.cell? ⟨wb, 1, none⟩ = some (.slice none 0 0) := by
    have h1 : w.drew.heap[wb]? = some (.cells #[p, .slice none 0 0, .int .i64 op] 143 (0, 0)) := hbk
    exact cell_of_block h1
  have hSD : (Builtin.unsafeSliceData_ #[32] 215 #[.slice none 0 0]).run Tryz.prog w.drew = .ok (.pointer none) w.drew := rfl
  have hUS : ∀ W : World, (Builtin.unsafeString_ #[215, 3] 9 #[.pointer none, .int .i64 0]).run Tryz.prog W = .ok (.string ⟨#[]⟩) W := fun W => by kernel_rfl
  have mixed : (Tryz.prog).follows Departure.mixedOrders = true := by kernel_rfl
  have HK : Hid (Kept wb wtags w w.drew) := kept_none (grown_drew _)
  clear hbk
  go_enter Tryz.func69, Tryz.ntmps69
  go_wp2
  go_region_o
  all_goals (go_wp2; go_ret; exact ⟨rfl, HK.out⟩)
end Go.Proofs.YtfocdefchbnkpaaGreatDoor
