/- The targets of a rule, as the program's reader reads them. -/
import Derived.Test.YtfocdefchbnkpaaGreatDoorProN
import Derived.Test.YtfocdefchbnkpaaGreatDoorProT
import Derived.Deep.AppendLies
namespace Go.Proofs.YtfocdefchbnkpaaGreatDoor
open Go.RowKit

theorem info_ptg : (Tryz.prog.info? 285).map (fun i => (i.zero, i.size, i.bytes)) = some (some (.agg #[.string ⟨#[]⟩, .int .i64 0]), 2, 24) := by kernel_rfl

set_option maxRecDepth 100000 in
set_option maxHeartbeats 4000000 in
theorem pro_targets {w : World} {rb : Nat} {s : ByteArray} {st : P.St} (h : PInv w rb s st) :
    Calls Tryz.prog 273 #[.pointer (some ⟨rb, 0, none⟩)] w fun e w' => ∃ v, e = .returned v ∧ PInv w' rb s (P.targetsS s.data.toList st).2 ∧ w.grownBy w' (some rb) ∧ w'.ownsRow w.heap.size 285 2 v (P.targetsS s.data.toList st).1.length (R.tgCells (P.targetsS s.data.toList st).1) ∧ ∀ t ∈ (P.targetsS s.data.toList st).1, 0 ≤ t.2 ∧ t.2 ≤ 99999 := by
  obtain ⟨i0, hi, hz0, hz1, hz2⟩ := info_parts info_ptg
  have c2 : w.cell? ⟨rb, 2, none⟩ = some (.int .i64 st.tok.at_) := cell_of_block h.rd
  have HP : Hid (P.targetsS s.data.toList st = (nz (P.tgAll s.data.toList st).1, P.noteIf (P.takeS s.data.toList (P.tgAll s.data.toList st).2 [59]) ((nz (P.tgAll s.data.toList st).1).isEmpty) 4 st.tok.at_)) := rfl
  have HA : Hid (P.tgAll s.data.toList st = P.tgLoop s.data.toList (s.data.toList.length + 1) (P.targetS s.data.toList (P.takeS s.data.toList st P.wTo) 0).2 [(P.targetS s.data.toList (P.takeS s.data.toList st P.wTo) 0).1]) := rfl
  have H0 : Hid _ := h
  have brb : rb < w.heap.size := block_lt h.rd
  clear h
  go_enter Tryz.func273, Tryz.ntmps273
  have C0 : Hid (w.grownBy w (some rb)) := grown_refl _ _
  go_wp2_with fail
  refine (pro_take H0.out _).mono ?_
  rintro e w1 ⟨rfl, I1, hg1⟩
  have J1 : Hid _ := I1
  have b1 : rb < w1.heap.size := block_lt J1.out.rd
  have s1 : w.heap.size + 0 ≤ w1.heap.size := by have h := hg1.size; simpa using h
  have G1 : Hid (w.grownBy w1 (some rb)) := hg1
  have C1 : Hid (w.grownBy w1 (some rb)) := grown_trans C0.out G1.out
  have z1 : w.heap.size ≤ w1.heap.size := C1.out.size
  clear hg1 I1
  rw [show (⟨#[116, 111]⟩ : ByteArray).data.toList = P.wTo from rfl] at J1
  generalize P.takeS s.data.toList st P.wTo = st1 at *
  have HT0 : Hid (∀ w, PInv w rb s st1 → Calls Tryz.prog 333 #[.pointer (some ⟨rb, 0, none⟩), .int .i64 0] w fun e w' => e = .returned (.agg #[.string (R.str (P.targetS s.data.toList st1 0).1.1), .int .i64 (P.targetS s.data.toList st1 0).1.2]) ∧ PInv w' rb s (P.targetS s.data.toList st1 0).2 ∧ w.grownBy w' (some rb) ∧ 0 ≤ (P.targetS s.data.toList st1 0).1.2 ∧ (P.targetS s.data.toList st1 0).1.2 ≤ 99999) := fun w h => pro_target h 0
  go_wp2_with fail
  refine (HT0.out _ J1.out).mono ?_
  rintro e w2 ⟨rfl, I2, hg2, hq0, hq1⟩
  have J2 : Hid _ := I2
  have b2 : rb < w2.heap.size := block_lt J2.out.rd
  have s2 : w1.heap.size + 0 ≤ w2.heap.size := by have h := hg2.size; simpa using h
  have G2 : Hid (w1.grownBy w2 (some rb)) := hg2
  have C2 : Hid (w.grownBy w2 (some rb)) := grown_trans C1.out G2.out
  have z2 : w.heap.size ≤ w2.heap.size := C2.out.size
  clear hg2 I2
  clear HT0
  generalize P.targetS s.data.toList st1 0 = q at *
  obtain ⟨⟨nm, wt⟩, st2⟩ := q
  simp only at J2 HA hq0 hq1 ⊢
  go_wp2_with fail
  have HRow0 : Hid ((World.alloc w2 (.cells #[.string (R.str nm), .int .i64 wt] 285)).ownsRow w.heap.size 285 2 (.slice (some ⟨w2.heap.size, 0, none⟩) 1 1) [(nm, wt)].length (R.tgCells [(nm, wt)])) := by
    refine ⟨rfl, Or.inr ⟨w2.heap.size, 1, #[.string (R.str nm), .int .i64 wt], rfl, z2, heap_alloc_new _ _, Nat.le_refl _, by unfold maxLen; omega, rfl, rfl⟩⟩
  have JA : Hid (PInv (World.alloc w2 (.cells #[.string (R.str nm), .int .i64 wt] 285)) rb s st2) := J2.out.keep (World.grownBy_alloc _ _ _)
  have CA : Hid (w.grownBy (World.alloc w2 (.cells #[.string (R.str nm), .int .i64 wt] 285)) (some rb)) := grown_trans C2.out (World.grownBy_alloc _ _ _)
  have HB0 : Hid (∀ t ∈ [(nm, wt)], (0 : Int) ≤ t.2 ∧ t.2 ≤ 99999) := by intro t ht; simp at ht; subst ht; exact ⟨hq0, hq1⟩
  have hl0 := J2.out.len
  go_loopw [4] (fun v wr => ∃ (n : Nat) (acc : List (List UInt8 × Int)) (p : P.St), 0 < acc.length ∧ acc.length ≤ p.tok.at_ + 1 ∧ p.tok.at_ ≤ s.size ∧ s.size < n + p.tok.at_ ∧ Hid (P.tgLoop s.data.toList n p acc = P.tgAll s.data.toList st) ∧ Hid (PInv wr rb s p) ∧ Hid (w.grownBy wr (some rb)) ∧ Hid (wr.ownsRow w.heap.size 285 2 v acc.length (R.tgCells acc)) ∧ Hid (∀ t ∈ acc, (0 : Int) ≤ t.2 ∧ t.2 ≤ 99999)) (fun v _ => s.size + 2 - lenOf v)
  case atStart => exact ⟨s.data.toList.length + 1, [(nm, wt)], st2, by simp, by simp, by have := J2.out.bd; omega, by rw [R.size_eq]; omega, HA.out.symm, JA, CA, HRow0, HB0⟩
  case round =>
    obtain ⟨n, acc, p, hap, hal, hpl, hn, HL, IR, HR, HO, HBd⟩ := hrel
    have bwr : rb < wr.heap.size := block_lt IR.out.rd
    have zwr : w.heap.size ≤ wr.heap.size := HR.out.size
    obtain ⟨n, rfl⟩ : ∃ m, n = m + 1 := ⟨n - 1, by omega⟩
    have HL1 := HL.out
    rw [P.tgLoop] at HL1
    have HLen : Hid (lenOf u4 = acc.length) := lenOf_row HO.out
    obtain ⟨ua, uc, rfl⟩ := len_row HO.out
    have HO_L0 : Hid _ := HO.out
    go_wp2_with fail
    refine (pro_sees IR.out _).mono ?_
    rintro e wL1 ⟨rfl, ggL1⟩
    have hgL1 := grown_wide ggL1 (some rb)
    have JL1 : Hid _ := (IR.out).keep ggL1
    have bL1 : rb < wL1.heap.size := block_lt JL1.out.rd
    have sL1 : wr.heap.size + 0 ≤ wL1.heap.size := by have h := hgL1.size; simpa using h
    have GL1 : Hid (wr.grownBy wL1 (some rb)) := hgL1
    have CL1 : Hid (w.grownBy wL1 (some rb)) := grown_trans HR.out GL1.out
    have zL1 : w.heap.size ≤ wL1.heap.size := CL1.out.size
    have HO_L1 : Hid _ := own_kept HO_L0.out GL1.out (by omega)
    clear hgL1 ggL1
    rw [show (⟨#[44]⟩ : ByteArray).data.toList = [44] from rfl]
    cases hgo : P.sees p [44]
    · rw [hgo] at HL1
      simp only [Bool.false_eq_true, if_false] at HL1
      have HT : Hid (P.tgAll s.data.toList st = (acc, p)) := HL1.symm
      clear HL1 HL
      rw [HT.out] at HP
      simp only at HP
      go_wp2_with fail
      refine (pro_take JL1.out _).mono ?_
      rintro e wLn1 ⟨rfl, ILn1, hgLn1⟩
      have JLn1 : Hid _ := ILn1
      have bLn1 : rb < wLn1.heap.size := block_lt JLn1.out.rd
      have sLn1 : wL1.heap.size + 0 ≤ wLn1.heap.size := by have h := hgLn1.size; simpa using h
      have GLn1 : Hid (wL1.grownBy wLn1 (some rb)) := hgLn1
      have CLn1 : Hid (w.grownBy wLn1 (some rb)) := grown_trans CL1.out GLn1.out
      have zLn1 : w.heap.size ≤ wLn1.heap.size := CLn1.out.size
      have HO_Ln1 : Hid _ := own_kept HO_L1.out GLn1.out (by omega)
      clear hgLn1 ILn1
      rw [show (⟨#[59]⟩ : ByteArray).data.toList = [59] from rfl] at JLn1
      go_wp2_with fail
      refine (pro_DeleteFunc wLn1 w.heap.size _ acc HO_Ln1.out (by omega) hap).mono ?_
      rintro e wD ⟨vD, rfl, hrD, hgD⟩
      have JD : Hid _ := JLn1.out.away hgD (fun k hk => by have h1 := (World.ownsRow.lt HO_Ln1.out k hk).1; omega)
      have CD : Hid (w.grownBy wD (some rb)) := grown_far CLn1.out hgD (fun k hk => (World.ownsRow.lt HO_Ln1.out k hk).1)
      obtain ⟨da, dc, rfl⟩ := len_row hrD
      have HRD : Hid _ := hrD
      have bD : rb < wD.heap.size := block_lt JD.out.rd
      clear hrD hgD
      have HEm : Hid ((((nz acc).length : Int) == 0) = (nz acc).isEmpty) := by show _ = _; cases nz acc with | nil => rfl | cons a b => simp; omega
      have HRD_Ln1 : Hid _ := HRD.out
      have hsd : w.heap.size ≤ wD.heap.size := CD.out.size
      generalize hnzl : (nz acc).length = nzl at *
      have HNZ : Hid _ := hnzl
      clear hnzl
      go_wp2_with fail
      refine (pro_noteIf JD.out _ _ _).mono ?_
      rintro e wLn2 ⟨rfl, ILn2, hgLn2⟩
      have JLn2 : Hid _ := ILn2
      have bLn2 : rb < wLn2.heap.size := block_lt JLn2.out.rd
      have sLn2 : wD.heap.size + 0 ≤ wLn2.heap.size := by have h := hgLn2.size; simpa using h
      have GLn2 : Hid (wD.grownBy wLn2 (some rb)) := hgLn2
      have CLn2 : Hid (w.grownBy wLn2 (some rb)) := grown_trans CD.out GLn2.out
      have zLn2 : w.heap.size ≤ wLn2.heap.size := CLn2.out.size
      have HRD_Ln2 : Hid _ := own_kept HRD_Ln1.out GLn2.out (by omega)
      clear hgLn2 ILn2
      rw [HEm.out] at JLn2
      go_wp2
      go_ret
      exact ⟨_, rfl, by rw [HP.out]; exact JLn2.out, CLn2.out, by rw [HP.out]; show World.ownsRow _ _ _ _ _ (nz acc).length _; rw [HNZ.out]; exact HRD_Ln2.out, by rw [HP.out]; intro t ht; exact HBd.out t ((List.mem_filter.1 ht).1)⟩
    · rw [hgo] at HL1
      simp only [if_true] at HL1
      have hat1 := P.at_sees s.data.toList p [44] hgo (by decide)
      have hat2 := P.at_target s.data.toList (P.takeS s.data.toList p [44]) acc.length
      have HL2 : Hid _ := HL1
      clear HL1 HL
      go_wp2_with fail
      refine (pro_take JL1.out _).mono ?_
      rintro e wLy1 ⟨rfl, ILy1, hgLy1⟩
      have JLy1 : Hid _ := ILy1
      have bLy1 : rb < wLy1.heap.size := block_lt JLy1.out.rd
      have sLy1 : wL1.heap.size + 0 ≤ wLy1.heap.size := by have h := hgLy1.size; simpa using h
      have GLy1 : Hid (wL1.grownBy wLy1 (some rb)) := hgLy1
      have CLy1 : Hid (w.grownBy wLy1 (some rb)) := grown_trans CL1.out GLy1.out
      have zLy1 : w.heap.size ≤ wLy1.heap.size := CLy1.out.size
      have HO_Ly1 : Hid _ := own_kept HO_L1.out GLy1.out (by omega)
      clear hgLy1 ILy1
      rw [show (⟨#[44]⟩ : ByteArray).data.toList = [44] from rfl] at JLy1
      generalize P.takeS s.data.toList p [44] = p1 at *
      go_wp2_with fail
      refine (pro_target JLy1.out acc.length).mono ?_
      rintro e wLy2 ⟨rfl, ILy2, hgLy2, hw0, hw1⟩
      have JLy2 : Hid _ := ILy2
      have bLy2 : rb < wLy2.heap.size := block_lt JLy2.out.rd
      have sLy2 : wLy1.heap.size + 0 ≤ wLy2.heap.size := by have h := hgLy2.size; simpa using h
      have GLy2 : Hid (wLy1.grownBy wLy2 (some rb)) := hgLy2
      have CLy2 : Hid (w.grownBy wLy2 (some rb)) := grown_trans CLy1.out GLy2.out
      have zLy2 : w.heap.size ≤ wLy2.heap.size := CLy2.out.size
      have HO_Ly2 : Hid _ := own_kept HO_Ly1.out GLy2.out (by omega)
      clear hgLy2 ILy2
      generalize P.targetS s.data.toList p1 acc.length = q at *
      obtain ⟨⟨nm2, wt2⟩, p2⟩ := q
      simp only at JLy2 HL2 hw0 hw1 hat2 ⊢
      have hbd2 := JLy2.out.bd
      go_wp2_with (at_builtin; refine wpList_append_lies _ rfl _ _ 210 rfl (w.heap.size) 285 i0 _ 2 24 Tryz.underlying210 hi hz0 hz1 hz2 rfl (by decide) _ _ _ rfl (World.ownsRow.alloc HO_Ly2.out _) ⟨wLy2.heap.size, 0, none⟩ 1 1 [.string (R.str nm2), .int .i64 wt2] rfl rfl ?c1 ?c2 (by decide) ?c3 ?c4 ?c5 (wLy2.heap.size + 1) (by simp) ?_)
      case c1 => exact cells_new _ #[_, _] _ _ (by simp)
      case c2 => intro u hu; simp at hu; rcases hu with rfl | rfl <;> rfl
      case c3 => unfold maxLen; omega
      case c4 => omega
      case c5 => have := CLy2.out.size; simp; omega
      intro gLy3 capLy3 wLy3 hownLy3 hgrowLy3 hatLy3 _
      have HO_Ly3 : Hid (wLy3.ownsRow w.heap.size 285 2 (.slice (some ⟨gLy3, 0, none⟩) (acc.length + 1) capLy3) (acc ++ [(nm2, wt2)]).length (R.tgCells (acc ++ [(nm2, wt2)]))) := by rw [R.tgCells_snoc, List.length_append]; exact hownLy3
      have farLy3 : ∀ k, (.slice ua acc.length uc : Value).ownBlock = some k → w.heap.size ≤ k := fun k hk => (World.ownsRow.lt HO_Ly2.out k hk).1
      have nearLy3 : ∀ k, (.slice ua acc.length uc : Value).ownBlock = some k → k < wLy2.heap.size := fun k hk => (World.ownsRow.lt HO_Ly2.out k hk).2
      have JLy3 : Hid _ := (JLy2.out.keep (World.grownBy_alloc _ _ _)).away hgrowLy3 (fun k hk => by have h1 := farLy3 k hk; omega)
      have CLy3 : Hid (w.grownBy wLy3 (some rb)) := grown_far (grown_trans CLy2.out (World.grownBy_alloc _ _ _)) hgrowLy3 (fun k hk => by have h1 := farLy3 k hk; omega)
      have bLy3 : rb < wLy3.heap.size := block_lt JLy3.out.rd
      have sLy3 : wLy2.heap.size + 1 ≤ wLy3.heap.size := by have h := hgrowLy3.size; simpa using h
      have zLy3 : w.heap.size ≤ wLy3.heap.size := CLy3.out.size
      clear hownLy3 hgrowLy3 farLy3
      go_wp2
      go_roundw
      case rel => exact ⟨n, acc ++ [(nm2, wt2)], p2, by simp, by rw [List.length_append]; simp; omega, by omega, by omega, HL2, JLy3, CLy3, HO_Ly3.out, fun t ht => by rcases List.mem_append.1 ht with h | h; exact HBd.out t h; simp at h; subst h; exact ⟨hw0, hw1⟩⟩
      case measure => show _ < _; rw [show lenOf (.slice (some ⟨gLy3, 0, none⟩) (acc.length + 1) capLy3) = acc.length + 1 from by rw [lenOf_row HO_Ly3.out]; simp]; simp [lenOf]; omega

end Go.Proofs.YtfocdefchbnkpaaGreatDoor
