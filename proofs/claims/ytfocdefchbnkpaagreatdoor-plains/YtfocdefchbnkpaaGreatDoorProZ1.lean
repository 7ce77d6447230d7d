/- The writer of a policy: a quoted string, a line. -/
import Derived.Test.YtfocdefchbnkpaaGreatDoorProZ0
import Derived.Test.YtfocdefchbnkpaaGreatDoorShelfC
import Derived.Test.YtfocdefchbnkpaaGreatDoorEqD
import Derived.Deep.RegionHeld3
namespace Go.Proofs.YtfocdefchbnkpaaGreatDoor
open Go.RowKit

theorem str_add3 (l : List UInt8) : (⟨#[34]⟩ : ByteArray) ++ R.str l ++ ⟨#[34]⟩ = R.str (R.q l) := by
  apply ByteArray.ext
  simp [R.str, R.q]
set_option maxHeartbeats 1000000 in
theorem pro_quoted (l : List UInt8) (w : World) (hl : l.length ≤ 3000) : Calls Tryz.prog 105 #[.string (R.str l)] w fun e w' => e = .returned (.string (R.str (R.q l))) ∧ w' = w := by
  have hz : (R.str l).size ≤ 3000 := by rw [R.str_size]; exact hl
  have e := str_add3 l
  go_enter Tryz.func105, Tryz.ntmps105
  go_wp2
  go_ret
  exact ⟨rfl, rfl⟩
theorem Kept.cell {B : Nat} {l : List TypeId} {w w' : World} (h : Kept B l w w') {b : Nat} {c : Array Value} {t : TypeId} {f : Nat × Nat} (hb : w.heap[b]? = some (.cells c t f)) (ht : t ∉ l) : w'.heap[b]? = some (.cells c t f) := by
  rw [h.block b (block_lt hb) (Or.inr fun c' t' f' hb' => by rw [hb] at hb'; cases hb'; exact ht)]; exact hb
theorem WInv.grown {w w' : World} {wb : Nat} {l : List UInt8} {op : Int} (h : WInv w wb l op) (hg : w.grownBy w' none) : WInv w' wb l op := by
  rcases h with ⟨v, hb, ho⟩ | ⟨v, hb, ho⟩
  · exact Or.inl ⟨v, keep_block hb hg (by simp), own_away ho hg (fun k hk c => by cases c)⟩
  · exact Or.inr ⟨v, keep_block hb hg (by simp), own_away ho hg (fun k hk c => by cases c)⟩
theorem WInv.op {w : World} {wb : Nat} {l : List UInt8} {op : Int} (h : WInv w wb l op) : w.cell? ⟨wb, 2, none⟩ = some (.int .i64 op) := by
  rcases h with ⟨v, hb, ho⟩ | ⟨v, hb, ho⟩
  · exact cell_of_block hb
  · exact cell_of_block hb
def lnS (op : Nat) (ps : List (List UInt8)) : List UInt8 := List.replicate (2 * op) 32 ++ ps.flatten ++ [10]
theorem rep_str (op : Nat) : Lib.repeatL (⟨#[32, 32]⟩ : ByteArray).data.toList op = List.replicate (2 * op) 32 := by
  have h := Lib.repeatL_replicate 32 2 op
  rw [Nat.mul_comm]; exact h

set_option maxRecDepth 100000 in
set_option maxHeartbeats 2000000 in
theorem pro_line {w : World} {wb : Nat} {l : List UInt8} {op : Nat} (h : WInv w wb l op) (g c : Nat) (ps : List (List UInt8)) (hp : w.heap[g]? = some (.cells (R.strCells ps).toArray 9 (0, 0))) (hop : op ≤ 3)
    (hl : l.length + 6 + ps.flatten.length + 1 ≤ 140737488355328) (hn : ps.length ≤ 1000) :
    Calls Tryz.prog 104 #[.pointer (some ⟨wb, 0, none⟩), .slice (some ⟨g, 0, none⟩) ps.length c] w fun e w' => e = .returned (.tuple #[]) ∧ WInv w' wb (l ++ lnS op ps) op ∧ Kept wb wtags w w' := by
  have c2 := h.op
  have H0 : Hid (WInv w wb l op) := h
  have HP : Hid _ := hp
  clear h hp
  have HR : Hid (∀ W, w.grownBy W none → Calls Tryz.prog 157 #[.string ⟨#[32, 32]⟩, .int .i64 op] W fun e w' => e = .returned (.string (R.str (List.replicate (2 * op) 32))) ∧ w.grownBy w' none ∧ w'.cell? ⟨wb, 2, none⟩ = some (.int .i64 op)) := fun W hW =>
    (Tryz.strings_Repeat ⟨#[32, 32]⟩ op W (by omega) (by show 2 * op ≤ _; omega)).mono fun e w' ⟨h1, h2⟩ => ⟨by rw [h1, rep_str]; rfl, grown_trans hW (grown_of_below h2), (H0.out.grown (grown_trans hW (grown_of_below h2))).op⟩
  have HW : Hid (∀ W, w.grownBy W none → Calls Tryz.prog 156 #[.pointer (some ⟨wb, 0, none⟩), .string (R.str (List.replicate (2 * op) 32))] W fun e w' => ∃ n : Int, e = .returned (.tuple #[.int .i64 n, .nilIface]) ∧ WInv w' wb (l ++ List.replicate (2 * op) 32) op ∧ Kept wb wtags w w' ∧ w'.cell? ⟨wb, 2, none⟩ = some (.int .i64 op)) := fun W hW =>
    (pro_wstr (H0.out.grown hW) (R.str (List.replicate (2 * op) 32)) (by rw [R.str_size, List.length_replicate]; omega)).mono fun e w' ⟨h1, h2, h3⟩ => ⟨_, h1, by rw [R.str_toList] at h2; exact h2, (kept_none hW).trans h3, h2.op⟩
  go_enter Tryz.func104, Tryz.ntmps104
  go_wp2_with fail
  go_region_held3 (fun W => W.cell? ⟨wb, 2, none⟩ = some (.int .i64 op)) (go_keep) (first
    | (go_at_call 157; show Calls _ _ _ (World.drew w) _; refine (HR.out _ (grown_drew w)).mono ?_; rintro e wR ⟨rfl, hgR, hcR⟩; have HgR : Hid (w.grownBy wR none) := hgR; clear hgR)
    | (go_at_call 156; refine (HW.out _ HgR.out).mono ?_; rintro e wT ⟨nT, rfl, hI, hK, hcT⟩; have HI : Hid (WInv wT wb (l ++ List.replicate (2 * op) 32) op) := hI; have HK : Hid (Kept wb wtags w wT) := hK; clear hI hK))
  all_goals
    clear HR HW HgR
    go_wp2_with fail
    go_loopw [17] (fun iv wr => ∃ i : Nat, i ≤ ps.length ∧ iv = .int .i64 i ∧ Hid (WInv wr wb (l ++ List.replicate (2 * op) 32 ++ (ps.take i).flatten) op) ∧ Hid (Kept wb wtags w wr)) (fun iv _ => ps.length - (intOf iv).toNat)
    case atStart => exact ⟨0, Nat.zero_le _, rfl, by rw [List.take_zero, List.flatten_nil, List.append_nil]; exact HI, HK⟩
    case round =>
      obtain ⟨i, hil, rfl, IR, KR⟩ := hrel
      by_cases hlt : i < ps.length
      · have hiI : (i : Int) < ps.length := by omega
        have d0 : wr.cell? ⟨g, i, none⟩ = some (.string (R.str ps[i])) := by
          rw [Lib.cell_of_heap (KR.out.cell HP.out (by decide))]
          simp [R.strCells, hlt]
        have hfl : (ps.take i).flatten.length + ps[i].length ≤ ps.flatten.length := by
          have e : ps = ps.take i ++ ps[i] :: ps.drop (i + 1) := by rw [← List.drop_eq_getElem_cons hlt, List.take_append_drop]
          have := congrArg (fun z => (List.flatten z).length) e
          simp only [List.flatten_append, List.flatten_cons, List.length_append] at this
          omega
        have HW : Hid (Calls Tryz.prog 156 #[.pointer (some ⟨wb, 0, none⟩), .string (R.str ps[i])] wr fun e w' => ∃ n : Int, e = .returned (.tuple #[.int .i64 n, .nilIface]) ∧ WInv w' wb (l ++ List.replicate (2 * op) 32 ++ (ps.take (i + 1)).flatten) op ∧ Kept wb wtags w w') :=
          (pro_wstr IR.out (R.str ps[i]) (by rw [R.str_size]; simp only [List.length_append, List.length_replicate]; omega)).mono fun e w' ⟨h1, h2, h3⟩ => ⟨_, h1, by
            rw [R.str_toList, List.append_assoc, ← List.flatten_concat, ← List.take_succ_eq_append_getElem hlt] at h2; exact h2, KR.out.trans h3⟩
        clear hfl
        generalize ps[i] = pi at *
        go_wp2_with (go_at_call 156; refine HW.out.mono ?_; rintro e w2 ⟨n2, rfl, h2, h3⟩)
        go_roundw
        case rel => exact ⟨i + 1, by omega, by go_num, h2, h3⟩
        case measure => simp [intOf]; omega
      · have HWb : Hid (Calls Tryz.prog 158 #[.pointer (some ⟨wb, 0, none⟩), .int .u8 10] wr fun e w' => e = .returned .nilIface ∧ WInv w' wb (l ++ lnS op ps) op ∧ Kept wb wtags w w') :=
          (pro_wbyte IR.out 10 (by rw [show i = ps.length by omega, List.take_of_length_le (Nat.le_refl _)]; simp only [List.length_append, List.length_replicate]; omega)).mono fun e w' ⟨h1, h2, h3⟩ => ⟨h1, by
            rw [show i = ps.length by omega, List.take_of_length_le (Nat.le_refl _)] at h2
            unfold lnS; rw [← List.append_assoc, ← List.append_assoc]; exact h2, KR.out.trans h3⟩
        go_wp2_with (go_at_call 158; refine HWb.out.mono ?_; rintro e w2 ⟨rfl, h2, h3⟩)
        go_end0
        exact ⟨rfl, h2, h3⟩
end Go.Proofs.YtfocdefchbnkpaaGreatDoor

/- The writer of a policy: a header that is asked for. -/
namespace Go.Proofs.YtfocdefchbnkpaaGreatDoor
open Go.RowKit

set_option maxRecDepth 100000 in
set_option maxHeartbeats 2000000 in
theorem pro_wmatch {w : World} {wb : Nat} {l : List UInt8} (h : WInv w wb l (2 : Nat)) (m : P.Mt) (h1 : m.name.length ≤ 3000) (h2 : m.val.length ≤ 3000) (hl : l.length ≤ 100000000000000) :
    Calls Tryz.prog 160 #[.pointer (some ⟨wb, 0, none⟩), .agg #[.string (R.str m.name), .bool m.ask, .string (R.str m.val)]] w fun e w' => e = .returned (.tuple #[]) ∧ WInv w' wb (l ++ R.lnMt (mtOf m)) (2 : Nat) ∧ Kept wb wtags w w' := by
  have HBx : Hid ((w.alloc (.cells #[.string (R.str m.name), .bool m.ask, .string (R.str m.val)] 276)).heap[w.heap.size]? = some (.cells #[.string (R.str m.name), .bool m.ask, .string (R.str m.val)] 276)) := heap_alloc_new _ _
  have b0 : (w.alloc (.cells #[.string (R.str m.name), .bool m.ask, .string (R.str m.val)] 276)).cell? ⟨w.heap.size, 0, none⟩ = some (.string (R.str m.name)) := cell_of_block HBx.out
  have b2 : (w.alloc (.cells #[.string (R.str m.name), .bool m.ask, .string (R.str m.val)] 276)).cell? ⟨w.heap.size, 2, none⟩ = some (.string (R.str m.val)) := cell_of_block HBx.out
  have HG0 : Hid (w.grownBy (w.alloc (.cells #[.string (R.str m.name), .bool m.ask, .string (R.str m.val)] 276)) none) := World.grownBy_alloc _ _ _
  have HL : Hid (∀ W (ps : List (List UInt8)), w.grownBy W none → ps.length ≤ 10 → ps.flatten.length ≤ 10000 → Calls Tryz.prog 104 #[.pointer (some ⟨wb, 0, none⟩), .slice (some ⟨W.heap.size, 0, none⟩) ps.length ps.length] (W.alloc (.cells (R.strCells ps).toArray 9)) fun e w' => e = .returned (.tuple #[]) ∧ WInv w' wb (l ++ lnS 2 ps) (2 : Nat) ∧ Kept wb wtags w w' ∧ Kept wb wtags W w') := fun W ps hW hp1 hp2 =>
    (pro_line (op := 2) (h.grown (grown_trans hW (World.grownBy_alloc _ _ _))) W.heap.size ps.length ps (heap_alloc_new _ _) (by omega) (by omega) (by omega)).mono fun e w' ⟨g1, g2, g3⟩ => ⟨g1, g2, (kept_none (grown_trans hW (World.grownBy_alloc _ _ none))).trans g3, (kept_none (World.grownBy_alloc _ _ none)).trans g3⟩
  have HT : Hid (R.lnMt (mtOf m) = lnS 2 (if m.ask then [[104, 101, 97, 100, 101, 114, 32], R.q m.name, [32, 61, 32], R.q m.val, [59]] else [[104, 101, 97, 100, 101, 114, 32], R.q m.name, [59]])) := by
    show R.lnMt (mtOf m) = _
    unfold R.lnMt mtOf lnS
    cases m.ask <;> simp
  have HQ1 : Hid (∀ W, Calls Tryz.prog 105 #[.string (R.str m.name)] W fun e w' => e = .returned (.string (R.str (R.q m.name))) ∧ w' = W) := fun W => pro_quoted m.name W h1
  have HQ2 : Hid (∀ W, Calls Tryz.prog 105 #[.string (R.str m.val)] W fun e w' => e = .returned (.string (R.str (R.q m.val))) ∧ w' = W) := fun W => pro_quoted m.val W h2
  rw [HT.out]
  clear h HT
  cases hask : m.ask with
  | false =>
    rw [hask] at b0 b2 HG0
    have HL3 : Hid (Calls Tryz.prog 104 #[.pointer (some ⟨wb, 0, none⟩), .slice (some ⟨w.heap.size + 1, 0, none⟩) 3 3] ((w.alloc (.cells #[.string (R.str m.name), .bool false, .string (R.str m.val)] 276)).alloc (.cells #[.string ⟨#[104, 101, 97, 100, 101, 114, 32]⟩, .string (R.str (R.q m.name)), .string ⟨#[59]⟩] 9)) fun e w' => e = .returned (.tuple #[]) ∧ WInv w' wb (l ++ lnS 2 [[104, 101, 97, 100, 101, 114, 32], R.q m.name, [59]]) (2 : Nat) ∧ Kept wb wtags w w') := by
      have h := HL.out _ [[104, 101, 97, 100, 101, 114, 32], R.q m.name, [59]] HG0.out (by simp) (by simp [R.q_len]; omega)
      rw [show (w.alloc (.cells #[.string (R.str m.name), .bool false, .string (R.str m.val)] 276)).heap.size = w.heap.size + 1 by simp] at h
      exact Calls.mono h fun e w' ⟨k1, k2, k3, _⟩ => ⟨k1, k2, k3⟩
    simp only [Bool.false_eq_true, if_false]
    clear HL HG0 HQ2
    generalize l ++ lnS 2 [[104, 101, 97, 100, 101, 114, 32], R.q m.name, [59]] = lo at *
    go_enter Tryz.func160, Tryz.ntmps160
    go_wp2_with (go_at_call 105; refine (HQ1.out _).mono ?_; rintro e w' ⟨rfl, rfl⟩)
    refine HL3.out.mono ?_
    rintro e w3 ⟨rfl, g2, g3⟩
    go_wp2
    go_end0
    exact ⟨rfl, g2, g3⟩
  | true =>
    rw [hask] at b0 b2 HG0
    have HL5 : Hid (Calls Tryz.prog 104 #[.pointer (some ⟨wb, 0, none⟩), .slice (some ⟨w.heap.size + 1, 0, none⟩) 5 5] (((w.alloc (.cells #[.string (R.str m.name), .bool true, .string (R.str m.val)] 276)).drew).alloc (.cells #[.string ⟨#[104, 101, 97, 100, 101, 114, 32]⟩, .string (R.str (R.q m.name)), .string ⟨#[32, 61, 32]⟩, .string (R.str (R.q m.val)), .string ⟨#[59]⟩] 9)) fun e w' => e = .returned (.tuple #[]) ∧ WInv w' wb (l ++ lnS 2 [[104, 101, 97, 100, 101, 114, 32], R.q m.name, [32, 61, 32], R.q m.val, [59]]) (2 : Nat) ∧ Kept wb wtags w w' ∧ w'.cell? ⟨w.heap.size, 0, none⟩ = some (.string (R.str m.name)) ∧ w'.cell? ⟨w.heap.size, 2, none⟩ = some (.string (R.str m.val))) := by
      have h := HL.out _ [[104, 101, 97, 100, 101, 114, 32], R.q m.name, [32, 61, 32], R.q m.val, [59]] (grown_trans HG0.out (grown_drew _)) (by simp) (by simp [R.q_len]; omega)
      rw [show ((w.alloc (.cells #[.string (R.str m.name), .bool true, .string (R.str m.val)] 276)).drew).heap.size = w.heap.size + 1 by simp [World.drew]] at h
      rw [hask] at HBx
      exact Calls.mono h fun e w' ⟨k1, k2, k3, k4⟩ => ⟨k1, k2, k3, cell_of_block (k4.cell (c := #[.string (R.str m.name), .bool true, .string (R.str m.val)]) HBx.out (by decide)), cell_of_block (k4.cell (c := #[.string (R.str m.name), .bool true, .string (R.str m.val)]) HBx.out (by decide))⟩
    simp only [if_true]
    clear HL HG0
    generalize l ++ lnS 2 [[104, 101, 97, 100, 101, 114, 32], R.q m.name, [32, 61, 32], R.q m.val, [59]] = lo at *
    go_enter Tryz.func160, Tryz.ntmps160
    go_wp2_with fail
    go_region_held3 (fun W => W.cell? ⟨w.heap.size, 0, none⟩ = some (.string (R.str m.name)) ∧ W.cell? ⟨w.heap.size, 2, none⟩ = some (.string (R.str m.val))) (go_keep) (first
      | (go_at_call 105; refine (HQ1.out _).mono ?_; rintro e w' ⟨rfl, rfl⟩)
      | (go_at_call 105; refine (HQ2.out _).mono ?_; rintro e w' ⟨rfl, rfl⟩)
      | (go_at_call 104; refine HL5.out.mono ?_; rintro e w3 ⟨rfl, g2, g3, g4, g5⟩))
    all_goals
      go_wp2
      refine bodyPost_ret (results_none rfl _ _ _) rfl ?_
      exact ⟨rfl, g2, g3⟩
end Go.Proofs.YtfocdefchbnkpaaGreatDoor
