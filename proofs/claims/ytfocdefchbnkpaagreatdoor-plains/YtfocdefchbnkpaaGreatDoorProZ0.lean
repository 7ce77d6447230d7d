/- The writer of a policy: its builder. -/
import Derived.Test.YtfocdefchbnkpaaGreatDoorProW
import Derived.Shelf.Strings.BuilderK
namespace Go.Proofs.YtfocdefchbnkpaaGreatDoor
open Go.RowKit

def wtags : List TypeId := [143, 5]
/-- The writer at wb holds these bytes; so many brackets are open. -/
structure WAt (w : World) (wb : Nat) (p : Value) (l : List UInt8) (op : Int) : Prop where
  ex : ∃ v, w.heap[wb]? = some (.cells #[p, v, .int .i64 op] 143 (0, 0)) ∧ w.ownsRow (wb + 1) 5 1 v l.length (Lib.byteCells l)
def WInv (w : World) (wb : Nat) (l : List UInt8) (op : Int) : Prop := WAt w wb (.pointer none) l op ∨ WAt w wb (.pointer (some ⟨wb, 0, none⟩)) l op

theorem PZ.info_b : (Tryz.prog.info? 141).map (·.size) = some 2 := by kernel_rfl
theorem PZ.info_8 : (Tryz.prog.info? 5).map (fun i => (i.zero, i.size, i.bytes)) = some (some (.int .u8 0), 1, 1) := by kernel_rfl
theorem PZ.lies : liesAt Tryz.prog (Tryz.prog).depth 143 (3 / (Tryz.prog).cellsOf 143) 0 141 1 = true := by kernel_rfl

set_option maxRecDepth 100000 in
set_option maxHeartbeats 2000000 in
theorem pro_check0 (b : Nat) (w : World) (c : Array Value) (hb : w.heap[b]? = some (.cells c 143 (0, 0))) (hc : c.size = 3) (h0 : c[0]? = some (.pointer none)) :
    Calls Tryz.prog 214 #[.pointer (some ⟨b, 0, none⟩)] w fun e w' => e = .returned (.tuple #[]) ∧ w' = w.setCell ⟨b, 0, none⟩ (.pointer (some ⟨b, 0, none⟩)) := by
  obtain ⟨j, hj, hjs⟩ := Option.map_eq_some_iff.1 PZ.info_b
  have c0 : w.cell? ⟨b, 0, none⟩ = some (.pointer none) := by rw [Lib.cell_of_heap hb]; exact h0
  have f0 : w.frozen? ⟨b, 0, none⟩ = false := frozen_of_block hb
  have hsh : w.shape? b = some (143, 3) := by simp [World.shape?, hb, hc]
  go_enter Tryz.func214, Tryz.ntmps214
  go_wp2
  rw [Lib.run_to_unsafe w ⟨b, 0, none⟩ Tryz.underlying139 Tryz.underlying386 hj (by rw [hjs]; decide) hsh (Nat.zero_lt_succ 2)]
  simp only [Result.andThen]
  rw [Oper.upon_value]
  go_wp2
  rw [run_callFunc_extern Tryz.func294 (by kernel_rfl) (by kernel_rfl) (by kernel_rfl) (e := Extern.AbiNoEscape.same) (by kernel_rfl)]
  rw [Lib.run_noEscape]
  simp only [Result.andThen]
  rw [Oper.upon_value]
  go_wp2
  rw [Lib.run_from_unsafe w ⟨b, 0, none⟩ Tryz.underlying386 Tryz.underlying139 hj hsh PZ.lies]
  simp only [Result.andThen]
  rw [Oper.upon_value]
  go_wp2
  go_end0
  exact ⟨rfl, rfl⟩
set_option maxRecDepth 100000 in
set_option maxHeartbeats 2000000 in
theorem pro_check1 (b : Nat) (w : World) (h0 : w.cell? ⟨b, 0, none⟩ = some (.pointer (some ⟨b, 0, none⟩))) :
    Calls Tryz.prog 214 #[.pointer (some ⟨b, 0, none⟩)] w fun e w' => e = .returned (.tuple #[]) ∧ w' = w := by
  obtain ⟨j, hj, hjs⟩ := Option.map_eq_some_iff.1 PZ.info_b
  go_enter Tryz.func214, Tryz.ntmps214
  go_wp2
  rw [Lib.run_neq_ptr_same w _ Tryz.underlying139 hj]
  go_wp2
  go_end0
  exact ⟨rfl, rfl⟩
theorem pro_check {w : World} {wb : Nat} {l : List UInt8} {op : Int} (h : WInv w wb l op) :
    Calls Tryz.prog 214 #[.pointer (some ⟨wb, 0, none⟩)] w fun e w' => e = .returned (.tuple #[]) ∧ WAt w' wb (.pointer (some ⟨wb, 0, none⟩)) l op ∧ Kept wb wtags w w' := by
  rcases h with ⟨v, hb, ho⟩ | h
  · refine (pro_check0 wb w _ hb rfl rfl).mono ?_
    rintro e w' ⟨rfl, rfl⟩
    have hg := grown_setCell w wb 0 (.pointer (some ⟨wb, 0, none⟩))
    exact ⟨rfl, ⟨v, block_setCell hb _, own_away ho hg (fun k hk e => by have := (World.ownsRow.lt ho k hk).1; cases e; omega)⟩, kept_some hg hb (by decide) (Nat.le_refl _)⟩
  · obtain ⟨v, hb, ho⟩ := id h
    refine (pro_check1 wb w (cell_of_block hb)).mono ?_
    rintro e w' ⟨rfl, rfl⟩
    exact ⟨rfl, h, Kept.refl _ _ _⟩

set_option maxRecDepth 100000 in
set_option maxHeartbeats 2000000 in
theorem pro_wstr {w : World} {wb : Nat} {l : List UInt8} {op : Int} (h : WInv w wb l op) (s : ByteArray) (hl : l.length + s.size ≤ 140737488355328) :
    Calls Tryz.prog 156 #[.pointer (some ⟨wb, 0, none⟩), .string s] w fun e w' => e = .returned (.tuple #[.int .i64 s.size, .nilIface]) ∧ WInv w' wb (l ++ s.data.toList) op ∧ Kept wb wtags w w' := by
  obtain ⟨i0, hi, hz0, hz1, hz2⟩ := info_parts PZ.info_8
  have HC : Hid (Calls Tryz.prog 214 #[.pointer (some ⟨wb, 0, none⟩)] w fun e w' => e = .returned (.tuple #[]) ∧ WAt w' wb (.pointer (some ⟨wb, 0, none⟩)) l op ∧ Kept wb wtags w w') := pro_check h
  clear h
  go_enter Tryz.func156, Tryz.ntmps156
  go_wp2_with fail
  refine HC.out.mono ?_
  rintro e w1 ⟨rfl, ⟨v, hb, ho⟩, hk⟩
  have HB : Hid _ := hb
  have HO : Hid (w1.ownsRow (wb + 1) 5 1 v l.length (Lib.byteCells l)) := ho
  have HK : Hid _ := hk
  have c1 : w1.cell? ⟨wb, 1, none⟩ = some v := cell_of_block hb
  have hwb : wb < w1.heap.size := block_lt hb
  clear hb ho hk HC
  go_wp2_with (at_builtin; refine Lib.wpList_append_own_string _ rfl _ _ 32 9 rfl (wb + 1) 5 i0 Tryz.underlying32 Tryz.underlying9 hi hz0 hz1 hz2 _ _ _ rfl HO.out s rfl ?c3 ?c4 ?c5 ?_)
  case c3 => unfold maxLen; omega
  case c4 => omega
  case c5 => omega
  intro v' w2 hown' hgrow _
  obtain ⟨va, vc, rfl⟩ := len_row hown'
  have hb2 : w2.heap[wb]? = some (.cells #[.pointer (some ⟨wb, 0, none⟩), v, .int .i64 op] 143 (0, 0)) := keep_block HB.out hgrow (fun e => by have := (World.ownsRow.lt HO.out wb e.symm).1; omega)
  have HB2 : Hid _ := hb2
  have hk2 : Kept wb wtags w1 w2 := by
    cases hv : v.ownBlock with
    | none => rw [hv] at hgrow; exact kept_none hgrow
    | some g =>
      rw [hv] at hgrow
      obtain ⟨c, hc⟩ := row_kind HO.out g hv
      exact kept_some hgrow hc (by decide) (by have := (World.ownsRow.lt HO.out g hv).1; omega)
  have HK2 : Hid _ := HK.out.trans hk2
  have HO2 : Hid _ := hown'
  have d1 : w2.cell? ⟨wb, 1, none⟩ = some v := cell_of_block hb2
  have f1 : w2.frozen? ⟨wb, 1, none⟩ = false := frozen_of_block hb2
  clear hb2 hk2 hown' hgrow
  go_wp2
  go_ret2
  have hg := grown_setCell w2 wb 1 (.slice va (l.length + s.size) vc)
  refine ⟨rfl, Or.inr ⟨_, block_setCell HB2.out _, ?_⟩, HK2.out.trans (kept_some hg HB2.out (by decide) (Nat.le_refl _))⟩
  have ho3 := own_away HO2.out hg (fun k hk e => by have := (World.ownsRow.lt HO2.out k hk).1; cases e; omega)
  rw [List.length_append, R.size_eq, Lib.byteCells_append]
  exact ho3

set_option maxRecDepth 100000 in
set_option maxHeartbeats 2000000 in
theorem pro_wbyte {w : World} {wb : Nat} {l : List UInt8} {op : Int} (h : WInv w wb l op) (c : UInt8) (hl : l.length + 1 ≤ 140737488355328) :
    Calls Tryz.prog 158 #[.pointer (some ⟨wb, 0, none⟩), .int .u8 c.toNat] w fun e w' => e = .returned .nilIface ∧ WInv w' wb (l ++ [c]) op ∧ Kept wb wtags w w' := by
  obtain ⟨i0, hi, hz0, hz1, hz2⟩ := info_parts PZ.info_8
  have HC : Hid (Calls Tryz.prog 214 #[.pointer (some ⟨wb, 0, none⟩)] w fun e w' => e = .returned (.tuple #[]) ∧ WAt w' wb (.pointer (some ⟨wb, 0, none⟩)) l op ∧ Kept wb wtags w w') := pro_check h
  clear h
  go_enter Tryz.func158, Tryz.ntmps158
  go_wp2_with fail
  refine HC.out.mono ?_
  rintro e w1 ⟨rfl, ⟨v, hb, ho⟩, hk⟩
  have HB : Hid _ := hb
  have HO : Hid (w1.ownsRow (wb + 1) 5 1 v l.length (Lib.byteCells l)) := ho
  have HK : Hid _ := hk
  have c1 : w1.cell? ⟨wb, 1, none⟩ = some v := cell_of_block hb
  have hwb : wb < w1.heap.size := block_lt hb
  clear hb ho hk HC
  go_wp2_with (at_builtin; refine wpList_append_own _ rfl _ _ 32 rfl (wb + 1) 5 i0 _ 1 1 Tryz.underlying32 hi hz0 hz1 hz2 rfl (by decide) _ _ _ rfl (World.ownsRow.alloc HO.out _) ⟨w1.heap.size, 0, none⟩ 1 1 [.int .u8 c.toNat] rfl ?a1 ?a2 ?a3 ?a4 ?a5 ?a6 ?_)
  case a1 => rfl
  case a2 =>
    intro j u hj
    match j, hj with
    | 0, hj => simp at hj; subst hj; simp [Addr.add]
  case a3 => intro u hu; simp at hu; subst hu; rfl
  case a4 => unfold maxLen; omega
  case a5 => omega
  case a6 => simp; omega
  intro v' w2 hown' hgrow _
  obtain ⟨va, vc, rfl⟩ := len_row hown'
  have hgA := World.grownBy_alloc w1 (.cells #[.int .u8 c.toNat] 5) none
  have hb1 : (w1.alloc (.cells #[.int .u8 c.toNat] 5)).heap[wb]? = some (.cells #[.pointer (some ⟨wb, 0, none⟩), v, .int .i64 op] 143 (0, 0)) := keep_block HB.out hgA (by simp)
  have hb2 : w2.heap[wb]? = some (.cells #[.pointer (some ⟨wb, 0, none⟩), v, .int .i64 op] 143 (0, 0)) := keep_block hb1 hgrow (fun e => by have := (World.ownsRow.lt HO.out wb e.symm).1; omega)
  have HB2 : Hid _ := hb2
  have hk2 : Kept wb wtags w1 w2 := by
    refine (kept_none hgA).trans ?_
    cases hv : v.ownBlock with
    | none => rw [hv] at hgrow; exact kept_none hgrow
    | some g =>
      rw [hv] at hgrow
      obtain ⟨c, hc⟩ := row_kind (World.ownsRow.alloc HO.out _) g hv
      exact kept_some hgrow hc (by decide) (by have := (World.ownsRow.lt HO.out g hv).1; omega)
  have HK2 : Hid _ := HK.out.trans hk2
  have HO2 : Hid _ := hown'
  have d1 : w2.cell? ⟨wb, 1, none⟩ = some v := cell_of_block hb2
  have f1 : w2.frozen? ⟨wb, 1, none⟩ = false := frozen_of_block hb2
  clear hb1 hb2 hk2 hown' hgrow hgA
  go_wp2
  go_ret
  have hg := grown_setCell w2 wb 1 (.slice va (l.length + 1) vc)
  refine ⟨rfl, Or.inr ⟨_, block_setCell HB2.out _, ?_⟩, HK2.out.trans (kept_some hg HB2.out (by decide) (Nat.le_refl _))⟩
  have ho3 := own_away HO2.out hg (fun k hk e => by have := (World.ownsRow.lt HO2.out k hk).1; cases e; omega)
  rw [List.length_append, Lib.byteCells_append]
  exact ho3
end Go.Proofs.YtfocdefchbnkpaaGreatDoor
