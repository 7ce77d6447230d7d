/- Hosts and rules in their order, as the program's reader sorts them: the comparisons, and slices.SortFunc at a row of each. -/
import Derived.Test.YtfocdefchbnkpaaGreatDoorProV0
import Derived.Test.YtfocdefchbnkpaaGreatDoorShelfB
import Derived.Test.YtfocdefchbnkpaaGreatDoorRefR
import Derived.Laws.Cover1
namespace Go.Proofs.YtfocdefchbnkpaaGreatDoor
open Go.RowKit

def P.cmpS (a b : List UInt8) : Int := if R.nameLt a b then -1 else if a = b then 0 else 1
def P.cmpI (a b : Int) : Int := if a < b then -1 else if a = b then 0 else 1

set_option maxHeartbeats 1000000 in
theorem pro_isNaN_s (x : ByteArray) (w : World) : Calls Tryz.prog 211 #[.string x] w fun e w' => e = .returned (.bool false) ∧ w' = w := by
  go_enter Tryz.func211, Tryz.ntmps211
  go_wp2
  go_ret
  exact ⟨by simp, rfl⟩
set_option maxHeartbeats 1000000 in
theorem pro_isNaN_i (x : Int) (w : World) : Calls Tryz.prog 213 #[.int .i64 x] w fun e w' => e = .returned (.bool false) ∧ w' = w := by
  go_enter Tryz.func213, Tryz.ntmps213
  go_wp2
  go_ret
  exact ⟨by simp, rfl⟩
set_option maxHeartbeats 2000000 in
theorem pro_cmp_s (x y : List UInt8) (w : World) : Calls Tryz.prog 152 #[.string (R.str x), .string (R.str y)] w fun e w' => e = .returned (.int .i64 (P.cmpS x y)) ∧ w' = w := by
  have h1 := R.nameLt_eq x y
  have h2 : ((R.str x).toList == (R.str y).toList) = decide (x = y) := by
    rw [Lib.toList_data, Lib.toList_data, R.str_toList, R.str_toList]; by_cases h : x = y <;> simp [h]
  by_cases hl : R.nameLt x y = true
  · rw [hl] at h1
    have e : P.cmpS x y = -1 := by unfold P.cmpS; rw [if_pos hl]
    generalize P.cmpS x y = r at *
    subst e
    go_enter Tryz.func152, Tryz.ntmps152
    go_wp2_with (go_at_call 211; refine (pro_isNaN_s _ _).mono ?_; rintro e w' ⟨rfl, rfl⟩)
    go_ret
    exact ⟨rfl, rfl⟩
  · rw [show R.nameLt x y = false by simpa using hl] at h1
    by_cases he : x = y
    · have e : P.cmpS x y = 0 := by unfold P.cmpS; rw [if_neg hl, if_pos he]
      rw [show decide (x = y) = true by simpa using he] at h2
      generalize P.cmpS x y = r at *
      subst e
      clear he
      go_enter Tryz.func152, Tryz.ntmps152
      go_wp2_with (go_at_call 211; refine (pro_isNaN_s _ _).mono ?_; rintro e w' ⟨rfl, rfl⟩)
      go_ret
      exact ⟨rfl, rfl⟩
    · have e : P.cmpS x y = 1 := by unfold P.cmpS; rw [if_neg hl, if_neg he]
      rw [show decide (x = y) = false by simpa using he] at h2
      generalize P.cmpS x y = r at *
      subst e
      clear he
      go_enter Tryz.func152, Tryz.ntmps152
      go_wp2_with (go_at_call 211; refine (pro_isNaN_s _ _).mono ?_; rintro e w' ⟨rfl, rfl⟩)
      go_ret
      exact ⟨rfl, rfl⟩
set_option maxHeartbeats 2000000 in
theorem pro_cmp_i (x y : Int) (w : World) : Calls Tryz.prog 155 #[.int .i64 x, .int .i64 y] w fun e w' => e = .returned (.int .i64 (P.cmpI x y)) ∧ w' = w := by
  go_enter Tryz.func155, Tryz.ntmps155
  go_wp2_with (go_at_call 213; refine (pro_isNaN_i _ _).mono ?_; rintro e w' ⟨rfl, rfl⟩)
  all_goals
    go_ret
    refine ⟨?_, rfl⟩
    unfold P.cmpI
    first | (rw [if_pos (by omega)]; rfl) | (rw [if_neg (by omega), if_pos (by omega)]; rfl) | (rw [if_neg (by omega), if_neg (by omega)]; rfl)

abbrev Sl3 := Option Addr × Nat × Nat
def Sl3.v (x : Sl3) : Value := .slice x.1 x.2.1 x.2.2
instance : Inhabited P.Hst := ⟨⟨[], []⟩⟩
instance : Inhabited P.Rl := ⟨⟨0, [], [], [], [], [], []⟩⟩
def encH (x : P.Hst × Sl3) : List Value := [.string (R.str x.1.name), .slice x.2.1 x.2.2.1 x.2.2.2]
def encR (x : P.Rl × Sl3 × Sl3 × Sl3 × Sl3) : List Value := [.int .i64 x.1.number, .string (R.str x.1.path), .slice x.2.1.1 x.2.1.2.1 x.2.1.2.2, .slice x.2.2.1.1 x.2.2.1.2.1 x.2.2.1.2.2, .string (R.str x.1.rep), .slice x.2.2.2.1.1 x.2.2.2.1.2.1 x.2.2.2.1.2.2, .slice x.2.2.2.2.1 x.2.2.2.2.2.1 x.2.2.2.2.2.2]

set_option maxHeartbeats 2000000 in
theorem pro_clH (n1 n2 : List UInt8) (a1 a2 : Option Addr) (l1 l2 c1 c2 : Nat) (W : World) : Calls Tryz.prog 151 #[.agg #[.string (R.str n1), .slice a1 l1 c1], .agg #[.string (R.str n2), .slice a2 l2 c2]] W fun e w' => e = .returned (.int .i64 (P.cmpS n1 n2)) ∧ ∃ q os', w' = Go.Sort.grow (W.drewN q) os' := by
  have hcon := fun W' => pro_cmp_s n1 n2 W'
  generalize P.cmpS n1 n2 = r at hcon ⊢
  go_enter Tryz.func151, Tryz.ntmps151
  go_wp2_with (go_at_call 152; refine (hcon _).mono ?_; rintro e w' ⟨rfl, rfl⟩)
  go_ret
  exact ⟨rfl, 0, _, by rw [Go.Sort.alloc_eq_grow, Go.Sort.alloc_eq_grow, Go.Sort.grow_grow]; rfl⟩
set_option maxHeartbeats 2000000 in
theorem pro_clR (x y : P.Rl × Sl3 × Sl3 × Sl3 × Sl3) (W : World) : Calls Tryz.prog 154 #[.agg (encR x).toArray, .agg (encR y).toArray] W fun e w' => e = .returned (.int .i64 (P.cmpI x.1.number y.1.number)) ∧ ∃ q os', w' = Go.Sort.grow (W.drewN q) os' := by
  have hcon := fun W' => pro_cmp_i x.1.number y.1.number W'
  generalize P.cmpI x.1.number y.1.number = r at hcon ⊢
  show Calls Tryz.prog 154 #[.agg #[_, _, _, _, _, _, _], .agg #[_, _, _, _, _, _, _]] W _
  go_enter Tryz.func154, Tryz.ntmps154
  go_wp2_with (go_at_call 155; refine (hcon _).mono ?_; rintro e w' ⟨rfl, rfl⟩)
  go_ret
  exact ⟨rfl, 0, _, by rw [Go.Sort.alloc_eq_grow, Go.Sort.alloc_eq_grow, Go.Sort.grow_grow]; rfl⟩

theorem PV.isAggH : ∀ w, (isAgg (Tryz.sortHost_ren.t 24)).run Tryz.prog w = .ok true w := fun w => by kernel_rfl
theorem PV.sizeH : ∀ w, (Go.sizeOf (Tryz.sortHost_ren.t 24)).run Tryz.prog w = .ok 2 w := fun w => by kernel_rfl
theorem PV.isAggR : ∀ w, (isAgg (Tryz.sortRule_ren.t 24)).run Tryz.prog w = .ok true w := fun w => by kernel_rfl
theorem PV.sizeR : ∀ w, (Go.sizeOf (Tryz.sortRule_ren.t 24)).run Tryz.prog w = .ok 7 w := fun w => by kernel_rfl
theorem PV.enterH : ∀ args w, (callFunc 151 args).run Tryz.prog w = .ok (.enter 151 args) w := enters_of Tryz.func151 (by kernel_rfl) rfl
theorem PV.enterR : ∀ args w, (callFunc 154 args).run Tryz.prog w = .ok (.enter 154 args) w := enters_of Tryz.func154 (by kernel_rfl) rfl
def cfH (x y : P.Hst × Sl3) : Int := P.cmpS x.1.name y.1.name
def cfR (x y : P.Rl × Sl3 × Sl3 × Sl3 × Sl3) : Int := P.cmpI x.1.number y.1.number
theorem lt_cfH : Go.Proofs.ltOf cfH = fun x y => Go.Sort.ltStr x.1.name y.1.name := by
  funext x y; unfold Go.Proofs.ltOf cfH P.cmpS Go.Sort.ltStr R.nameLt
  rw [bytesLess_eq]
  by_cases h : x.1.name < y.1.name
  · simp [h]
  · simp only [h, decide_false, Bool.false_eq_true, if_false]; split <;> simp
theorem lt_cfR : Go.Proofs.ltOf cfR = fun x y => Go.Sort.ltInt x.1.number y.1.number := by
  funext x y; unfold Go.Proofs.ltOf cfR P.cmpI Go.Sort.ltInt
  by_cases h : x.1.number < y.1.number
  · simp [h]
  · simp only [h, if_false]; split <;> simp
theorem swo_H : Go.Sort.SWO (Go.Proofs.ltOf cfH) := by
  rw [lt_cfH]; exact ⟨fun x => Go.Sort.swo_ltStr.irrefl _, fun x y z => Go.Sort.swo_ltStr.trans _ _ _, fun x y z => Go.Sort.swo_ltStr.ntrans _ _ _⟩
theorem swo_R : Go.Sort.SWO (Go.Proofs.ltOf cfR) := by
  rw [lt_cfR]; exact ⟨fun x => Go.Sort.swo_ltInt.irrefl _, fun x y z => Go.Sort.swo_ltInt.trans _ _ _, fun x y z => Go.Sort.swo_ltInt.ntrans _ _ _⟩

/-- slices.SortFunc at a row of hosts. -/
theorem pro_sortH {w : World} {B g cap : Nat} (d : List (P.Hst × Sl3)) (h : w.ownsRow B 146 2 (.slice (some ⟨g, 0, none⟩) d.length cap) d.length (d.map encH).flatten) (hn : d.length ≤ 12) :
    Calls Tryz.prog 150 #[.slice (some ⟨g, 0, none⟩) d.length cap, .func (.func 151) #[] #[]] w fun e w' => e = .returned (.tuple #[]) ∧ ∃ d' : List (P.Hst × Sl3), d'.Perm d ∧ d'.Pairwise (fun x y => Go.Sort.ltStr y.1.name x.1.name = false) ∧ w.grownBy w' (some g) ∧ w'.ownsRow B 146 2 (.slice (some ⟨g, 0, none⟩) d.length cap) d.length (d'.map encH).flatten := by
  have hblk : g < w.heap.size := (World.ownsRow.lt h g rfl).2
  have hH := holds_of_row encH 2 (fun _ => rfl) d h
  have hcon := AnyQ.slices_SortFunc_small_sorted Tryz.sortHost 2 PV.isAggH PV.sizeH encH (fun _ => rfl) (fun x v hv => by simp [encH] at hv; rcases hv with rfl | rfl <;> rfl) cfH 151 #[] swo_H g 0 cap d.toArray w PV.enterH (fun _ _ _ _ x y => pro_clH x.1.name y.1.name _ _ _ _ _ _ _) hH hblk (by simpa using hn) Tryz.hlen
  change Calls Tryz.prog 150 _ _ _ at hcon
  rw [List.size_toArray] at hcon
  refine hcon.mono ?_
  rintro e w' ⟨rfl, d', n, os, hp, hs, rfl⟩
  refine ⟨rfl, d'.toList, ?_, ?_, grown_sortK _ _ _ _ _ _ _, ?_⟩
  · have := hp.2.2
    have e1 := hp.1
    simp at this e1
    rw [← e1, List.take_of_length_le (by simp)] at this
    exact this
  · rw [List.pairwise_iff_getElem]
    intro i j hi hj hij
    have e1 := hp.1
    simp at e1 hi hj
    have := hs i j (Nat.zero_le _) hij (by omega)
    rw [lt_cfH, getElem!_pos d' i hi, getElem!_pos d' j hj] at this
    simpa using this
  · have e1 := hp.1
    simp at e1
    have := row_sorted encH 2 (fun _ => rfl) d d'.toList (by simpa using e1) n os h
    simpa using this

/-- slices.SortFunc at a row of rules. -/
theorem pro_sortR {w : World} {B g cap : Nat} (d : List (P.Rl × Sl3 × Sl3 × Sl3 × Sl3)) (h : w.ownsRow B 213 7 (.slice (some ⟨g, 0, none⟩) d.length cap) d.length (d.map encR).flatten) (hn : d.length ≤ 12) :
    Calls Tryz.prog 153 #[.slice (some ⟨g, 0, none⟩) d.length cap, .func (.func 154) #[] #[]] w fun e w' => e = .returned (.tuple #[]) ∧ ∃ d' : List (P.Rl × Sl3 × Sl3 × Sl3 × Sl3), d'.Perm d ∧ d'.Pairwise (fun x y => Go.Sort.ltInt y.1.number x.1.number = false) ∧ w.grownBy w' (some g) ∧ w'.ownsRow B 213 7 (.slice (some ⟨g, 0, none⟩) d.length cap) d.length (d'.map encR).flatten := by
  have hblk : g < w.heap.size := (World.ownsRow.lt h g rfl).2
  have hH := holds_of_row encR 7 (fun _ => rfl) d h
  have hcon := AnyQ.slices_SortFunc_small_sorted Tryz.sortRule 7 PV.isAggR PV.sizeR encR (fun _ => rfl) (fun x v hv => by simp [encR] at hv; rcases hv with rfl | rfl | rfl | rfl | rfl | rfl | rfl <;> rfl) cfR 154 #[] swo_R g 0 cap d.toArray w PV.enterR (fun _ _ _ _ x y => pro_clR x y _) hH hblk (by simpa using hn) Tryz.hlen
  change Calls Tryz.prog 153 _ _ _ at hcon
  rw [List.size_toArray] at hcon
  refine hcon.mono ?_
  rintro e w' ⟨rfl, d', n, os, hp, hs, rfl⟩
  refine ⟨rfl, d'.toList, ?_, ?_, grown_sortK _ _ _ _ _ _ _, ?_⟩
  · have := hp.2.2
    have e1 := hp.1
    simp at this e1
    rw [← e1, List.take_of_length_le (by simp)] at this
    exact this
  · rw [List.pairwise_iff_getElem]
    intro i j hi hj hij
    have e1 := hp.1
    simp at e1 hi hj
    have := hs i j (Nat.zero_le _) hij (by omega)
    rw [lt_cfR, getElem!_pos d' i hi, getElem!_pos d' j hj] at this
    simpa using this
  · have e1 := hp.1
    simp at e1
    have := row_sorted encR 7 (fun _ => rfl) d d'.toList (by simpa using e1) n os h
    simpa using this

end Go.Proofs.YtfocdefchbnkpaaGreatDoor
