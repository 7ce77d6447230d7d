/- Plains, for every list of texts: whatever bytes they are, Plain answers as the document's own reading does; the texts read afterwards as before. No condition but what the row lists (the library's tables as its text lays them). -/
import Derived.Test.YtfocdefchbnkpaaGreatDoorCards
import Derived.Test.YtfocdefchbnkpaaGreatDoorTie
import Derived.Test.YtfocdefchbnkpaaGreatDoorProZ7
import Derived.Test.YtfocdefchbnkpaaGreatDoorCardA
import Derived.Test.YtfocdefchbnkpaaGreatDoorCardF
import Derived.Test.YtfocdefchbnkpaaGreatDoorCardG
import Derived.WalkKit
import Derived.ProofKit
import Derived.OpenShut
import Derived.Deep.DeepHandedRow
import Derived.Deep.Strs
import Derived.SevenTiedAt
import Derived.Carry
namespace Go.Proofs.YtfocdefchbnkpaaGreatDoor
open Go.ChangeShapes Go.WideShapes Go.ChangeAt Go.RowKit Go.Deep

theorem plains_walk {H : Type} {enc : TypeId × Value → H} {W : World} {a0 : Option Addr} {len cap fuel : Nat} {x : DataW H × List MemPlace}
    (hf : DataW.trod enc Tryz.prog W 0 (fun _ => true) true fuel 22 [.slice a0 len cap] = some x) (hG : Glob W) (hT : GT W) :
    Calls Tryz.prog 3 #[.slice a0 len cap] W fun e w' => e = .returned (.bool true) ∧ W.grownBy w' none := by
  rcases open_strs Tryz.underlying22 Tryz.underlying9 (by kernel_rfl) hf with ⟨hcs, _⟩ | ⟨a, len', cap', m, Sx, hcs, _, hl, hm, hmm, _, hcell⟩
  · simp at hcs
    obtain ⟨rfl, rfl, rfl⟩ := hcs
    exact law_Plains_zero none 0 W hG hT
  · simp at hcs
    obtain ⟨rfl, rfl, rfl⟩ := hcs
    simp only [if_true] at hmm
    obtain rfl : cap = m := hmm.symm
    by_cases hl0 : len = 0
    · subst hl0
      exact law_Plains_zero (some a) cap W hG hT
    · obtain ⟨b, off, spot⟩ := a
      have hspot : spot = none := by simpa [Addr.add] using World.cell?_spot (hcell 0 (by omega)).1
      subst hspot
      have hcell' : ∀ j, j < len → W.cell? ⟨b, off + j, none⟩ = some (.string (Sx j)) ∧ (Sx j).size ≤ maxLen := fun j hj => by rw [← add_plain]; exact hcell j (by omega)
      exact law_Plains b off len cap Sx W (fun j hj => (hcell' j hj).1) (fun j hj => (hcell' j hj).2) (by omega) hG hT

set_option maxRecDepth 100000 in
theorem plains_contract (H : Type) (enc : TypeId × Value → H) (W : World) (base : Nat) (args : Array Value) (ds gs : List (DataW H)) (before : List MemPlace)
    (hval : ∀ (j : Nat) t v, Tryz.f3.params[j]? = some t → args[j]? = some v → Value.okWide Tryz.prog W .any base t v)
    (hW : DataW.Whole enc Tryz.prog Tryz.f3.params.toList Rows.plainsSpec.vars false W args.toList ds gs before) (hL : laidMetH Tryz.prog Rows.plainsRow.laid W) (hsh : W.ShapedOpen Tryz.prog) :
    Calls Tryz.prog 3 args W fun e W' => ∃ v, e = .returned v ∧ Rows.plainsSpec.post enc Tryz.prog Tryz.f3 false true false false W args v W' := by
  have hW' := hW
  obtain ⟨p, q, hA0, hV, rfl, hfz, hnd⟩ := hW
  have hA : DataW.TrodAll enc Tryz.prog W 0 (fun _ => true) true Tryz.f3.params.toList args.toList ds p := hA0
  rw [Tryz.params3] at hA hval
  obtain ⟨v0, d0, rfl, rfl, h0⟩ := trodAll_one hA
  obtain ⟨rfl, rfl⟩ := trodVars_none hV
  obtain ⟨a0, len, cap, rfl⟩ := okWide_slice Tryz.underlying22 (hval 0 22 v0 rfl rfl)
  have h0k := h0
  obtain ⟨fuel, hf⟩ := h0
  simp only [List.append_nil] at hW'
  have hlt : ∀ x ∈ p, x.block < W.heap.size := fun x hx => by simpa using hW'.lt x hx
  refine (plains_walk hf (card_glob hsh) (card_pow hL)).mono fun e W' ⟨he, hg⟩ => ?_
  subst he
  have bel := card_below hg
  exact ⟨_, rfl, _, _, _, [], p, [], hW', trodAll_mk1 (shut_bool Tryz.underlying4 _), by
    have := trodAll_mk1 (Below.trod card_laidOut (by kernel_rfl) (of_decide_eq_true (by kernel_rfl)) h0k bel hlt)
    exact this, rfl, bel.frame _, fun h => by cases h⟩

theorem plains_reads (os : Os) {H : Type} (enc : TypeId × Value → H) : ∃ places, DataW.whole enc Tryz.prog ((World.laidAll Tryz.prog os Rows.plainsRow.laid).forCall (fun _ _ => 0) ⟨#[], #[.slice none 0 0], []⟩).memory Tryz.f3.params.toList Rows.plainsSpec.vars false #[Value.slice none 0 0].toList 8 = some ([.nil], [], places) :=
  ⟨[], by kernel_rfl⟩

set_option maxRecDepth 100000 in
theorem plains_lifted (os : Os) (started : os.Started) (H : Type) (enc : TypeId × Value → H) (F : Stop.Interp) :
    ReturnsInHanded {} Tryz.checked os 3 .any ((OpenSpec.ofChange Rows.plainsSpec).preRow enc Tryz.prog Tryz.f3 Rows.plainsRow.domain false Rows.plainsRow.laid) (((OpenSpec.ofChange Rows.plainsSpec).at F).post enc Tryz.prog Tryz.f3 false true false false) := by
  obtain ⟨places, hx⟩ := plains_reads os enc
  refine returnsInHanded_of_row (C := Tryz.checked) (s := OpenSpec.ofChange Rows.plainsSpec) card_own started (by kernel_rfl) Tryz.func3
    (card_row_at (enc := enc) (World.laidAll Tryz.prog os Rows.plainsRow.laid) #[.slice none 0 0] (World.laidAll_os _ _ _) (card_shaped os _) (by kernel_rfl)
      (OpenSpec.preRow_of_cond 8 hx (by kernel_rfl) (fun k hk => by cases hk) (by kernel_rfl) (card_wit os _))) ?_
  intro W base args ds gs before hval hW _ _ _ hL hsh _
  exact plains_contract H enc W base args ds gs before hval hW hL hsh

theorem plains_said : Rows.PlainsSaid :=
  OpenClaim.holds_of_cond 3 Tryz.f3 rfl rfl rfl rfl rfl rfl rfl ⟨rfl, rfl, rfl, rfl, rfl⟩ rfl rfl rfl rfl rfl (by kernel_rfl) Tryz.func3 plains_closed
    (of_decide_eq_true (by kernel_rfl)) (by unfold Func.isWrapper; first | (rw [if_pos (by decide +kernel)]; kernel_rfl) | (rw [if_neg (by decide +kernel)]; exact ⟨rfl, rfl⟩))
    (fun os started H enc _ F => by rw [OpenClaim.pre_eq_preRow]; exact plains_lifted os started H enc F)

theorem plains_plain (f : FuncId) (fn : Func) (hf : Tryz.pinned.checked.prog.funcNamed "switchyard/switchyardlaw.Plains" = some f) (hfn : Tryz.pinned.checked.prog.funcs[f]? = some fn) :
    true = Tryz.pinned.checked.prog.looks [] ∧ ∀ (j : Nat) t, fn.params[j]? = some t → Tryz.pinned.checked.prog.wantsStandIn t = false := by
  obtain rfl : f = 3 := Option.some.inj ((show Tryz.prog.funcNamed "switchyard/switchyardlaw.Plains" = some 3 by kernel_rfl).symm.trans hf) |>.symm
  obtain rfl : fn = Tryz.f3 := (Option.some.inj (Tryz.func3.symm.trans hfn)).symm
  refine ⟨by kernel_rfl, fun j t ht => ?_⟩
  rw [Tryz.params3] at ht
  obtain rfl : t = 22 := by simpa using Array.mem_of_getElem? ht
  exact (show Tryz.prog.wantsStandIn 22 = false by kernel_rfl)

theorem plains_card : Rows.PlainsCardSaid :=
  Claim7.holds_tied_plain_at .later [] _ _ _ _ plains_said (fun _ h => by cases h) (by kernel_rfl) (fun _ h => by cases h) plains_row_tie rfl ⟨rfl, rfl⟩ (by kernel_rfl) rfl plains_plain (card_goes Rows.plainsRow rfl)
#print axioms plains_card
end Go.Proofs.YtfocdefchbnkpaaGreatDoor
