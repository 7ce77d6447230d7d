/- A rule, as the program's reader reads it. -/
import Derived.Test.YtfocdefchbnkpaaGreatDoorProP
import Derived.Test.YtfocdefchbnkpaaGreatDoorProO
import Derived.Deep.RegionLaw
namespace Go.Proofs.YtfocdefchbnkpaaGreatDoor
open Go.RowKit

/-- Where the program's reader stands, for a loop's measure. -/
def atOf (w : World) (rb : Nat) : Nat := match w.cell? ⟨rb, 2, none⟩ with | some v => (intOf v).toNat | none => 0
theorem atOf_of {w : World} {rb : Nat} {s : ByteArray} {st : P.St} (h : PInv w rb s st) : atOf w rb = st.tok.at_ := by
  unfold atOf
  rw [show w.cell? ⟨rb, 2, none⟩ = some (.int .i64 st.tok.at_) from cell_of_block h.rd]
  simp [intOf]

theorem info_pmt : (Tryz.prog.info? 276).map (fun i => (i.zero, i.size, i.bytes)) = some (some (.agg #[.string ⟨#[]⟩, .bool false, .string ⟨#[]⟩]), 3, 40) := by kernel_rfl
theorem info_pfd : (Tryz.prog.info? 280).map (fun i => (i.zero, i.size, i.bytes)) = some (some (.agg #[.string ⟨#[]⟩, .string ⟨#[]⟩]), 2, 32) := by kernel_rfl

set_option maxRecDepth 100000 in
set_option maxHeartbeats 8000000 in
theorem pro_rule {w : World} {rb : Nat} {s : ByteArray} {st : P.St} (h : PInv w rb s st) (B : Nat) (v : Value) (rs : List P.Rl) (hR : PRulesRow w B v rs) (hn : rs.length ≤ 2000000000000) :
    Calls Tryz.prog 208 #[.pointer (some ⟨rb, 0, none⟩), v] w fun e w' => ∃ cs, e = .returned (.agg cs.toArray) ∧ PInv w' rb s (P.ruleS s.data.toList st (rs.map P.Rl.number)).2 ∧ w.grownBy w' (some rb) ∧ PRuleVal w' cs (P.ruleS s.data.toList st (rs.map P.Rl.number)).1 := by
  obtain ⟨im, mi, mz0, mz1, mz2⟩ := info_parts info_pmt
  obtain ⟨is, si, sz0, sz1, sz2⟩ := info_parts info_pfd
  obtain ⟨id, di, dz0, dz1, dz2⟩ := info_parts info_str
  have HP : Hid (P.ruleS s.data.toList st (rs.map P.Rl.number) = P.ruleT s.data.toList (P.rlA s.data.toList st (rs.map P.Rl.number))) := rfl
  have HA : Hid (P.rlA s.data.toList st (rs.map P.Rl.number) = P.ruleNoS s.data.toList (P.takeS s.data.toList (P.oneMore st rs.length 6) R.wRule) (rs.map P.Rl.number)) := by show _ = _; unfold P.rlA; rw [List.length_map]
  have H0 : Hid _ := h
  have brb : rb < w.heap.size := block_lt h.rd
  have hlen := h.len
  have HR : Hid (PRulesRow w B v rs) := hR
  have HN : Hid _ := hn
  obtain ⟨va, vc, rfl⟩ : ∃ a c, v = .slice a rs.length c := by obtain ⟨css, h1, _⟩ := hR; exact len_row h1
  clear h hR hn
  generalize P.ruleS s.data.toList st (rs.map P.Rl.number) = res at *
  go_enter Tryz.func208, Tryz.ntmps208
  have C0 : Hid (w.grownBy w (some rb)) := grown_refl _ _
  go_wp2_with fail
  refine (pro_oneMore (H0.out.keep (World.grownBy_alloc _ _ _)) _ _).mono ?_
  rintro e w1 ⟨rfl, I1, hg1⟩
  have J1 : Hid _ := I1
  have b1 : rb < w1.heap.size := block_lt J1.out.rd
  have s1 : w.heap.size + 1 ≤ w1.heap.size := by have h := hg1.size; simpa using h
  have G1 : Hid (w.grownBy w1 (some rb)) := (grown_trans (World.grownBy_alloc _ _ _) hg1)
  have C1 : Hid (w.grownBy w1 (some rb)) := grown_trans C0.out G1.out
  have z1 : w.heap.size ≤ w1.heap.size := C1.out.size
  have RB_1 : Hid (w1.heap[w.heap.size]? = some (.cells #[.int .i64 0, .string ⟨#[]⟩, .slice none 0 0, .slice none 0 0, .string ⟨#[]⟩, .slice none 0 0, .slice none 0 0] 213)) := new_block hg1 (by simp; omega)
  clear hg1 I1
  go_wp2_with fail
  refine (pro_take J1.out _).mono ?_
  rintro e w2 ⟨rfl, I2, hg2⟩
  have J2 : Hid _ := I2
  have b2 : rb < w2.heap.size := block_lt J2.out.rd
  have s2 : w1.heap.size + 0 ≤ w2.heap.size := by have h := hg2.size; simpa using h
  have G2 : Hid (w1.grownBy w2 (some rb)) := hg2
  have C2 : Hid (w.grownBy w2 (some rb)) := grown_trans C1.out G2.out
  have z2 : w.heap.size ≤ w2.heap.size := C2.out.size
  have RB_2 : Hid (w2.heap[w.heap.size]? = some (.cells #[.int .i64 0, .string ⟨#[]⟩, .slice none 0 0, .slice none 0 0, .string ⟨#[]⟩, .slice none 0 0, .slice none 0 0] 213)) := keep_block RB_1.out G2.out (by simp; omega)
  clear hg2 I2
  rw [show (⟨#[114, 117, 108, 101]⟩ : ByteArray).data.toList = R.wRule from rfl] at J2
  go_wp2_with fail
  refine (pro_ruleNumber J2.out B _ rs (HR.out.keep C2.out (H0.out.safe (by decide))) HN.out).mono ?_
  rintro e w3 ⟨rfl, I3, hg3, hn0, hn1⟩
  have J3 : Hid _ := I3
  have b3 : rb < w3.heap.size := block_lt J3.out.rd
  have s3 : w2.heap.size + 0 ≤ w3.heap.size := by have h := hg3.size; simpa using h
  have G3 : Hid (w2.grownBy w3 (some rb)) := hg3
  have C3 : Hid (w.grownBy w3 (some rb)) := grown_trans C2.out G3.out
  have z3 : w.heap.size ≤ w3.heap.size := C3.out.size
  have RB_3 : Hid (w3.heap[w.heap.size]? = some (.cells #[.int .i64 0, .string ⟨#[]⟩, .slice none 0 0, .slice none 0 0, .string ⟨#[]⟩, .slice none 0 0, .slice none 0 0] 213)) := keep_block RB_2.out G3.out (by simp; omega)
  clear hg3 I3
  rw [← HA.out] at J3 hn0 hn1
  rw [← HA.out]
  clear HA
  generalize P.rlA s.data.toList st (rs.map P.Rl.number) = qa at *
  obtain ⟨num, sA⟩ := qa
  simp only at J3 hn0 hn1 HP ⊢
  go_wp2_with fail
  refine (pro_take (J3.out.keep (World.grownBy_alloc _ _ _)) _).mono ?_
  rintro e w4 ⟨rfl, I4, hg4⟩
  have J4 : Hid _ := I4
  have b4 : rb < w4.heap.size := block_lt J4.out.rd
  have s4 : w3.heap.size + 1 ≤ w4.heap.size := by have h := hg4.size; simpa using h
  have G4 : Hid (w3.grownBy w4 (some rb)) := (grown_trans (World.grownBy_alloc _ _ _) hg4)
  have C4 : Hid (w.grownBy w4 (some rb)) := grown_trans C3.out G4.out
  have z4 : w.heap.size ≤ w4.heap.size := C4.out.size
  have RB_4 : Hid (w4.heap[w.heap.size]? = some (.cells #[.int .i64 0, .string ⟨#[]⟩, .slice none 0 0, .slice none 0 0, .string ⟨#[]⟩, .slice none 0 0, .slice none 0 0] 213)) := keep_block RB_3.out G4.out (by simp; omega)
  have UB_4 : Hid (w4.heap[w3.heap.size]? = some (.cells #[.int .i64 num, .string ⟨#[]⟩, .slice none 0 0, .slice none 0 0, .string ⟨#[]⟩, .slice none 0 0, .slice none 0 0] 213)) := new_block hg4 (by simp; omega)
  clear hg4 I4
  go_wp2_with fail
  refine (pro_path J4.out _).mono ?_
  rintro e w5 ⟨rfl, I5, hg5⟩
  have J5 : Hid _ := I5
  have b5 : rb < w5.heap.size := block_lt J5.out.rd
  have s5 : w4.heap.size + 0 ≤ w5.heap.size := by have h := hg5.size; simpa using h
  have G5 : Hid (w4.grownBy w5 (some rb)) := hg5
  have C5 : Hid (w.grownBy w5 (some rb)) := grown_trans C4.out G5.out
  have z5 : w.heap.size ≤ w5.heap.size := C5.out.size
  have RB_5 : Hid (w5.heap[w.heap.size]? = some (.cells #[.int .i64 0, .string ⟨#[]⟩, .slice none 0 0, .slice none 0 0, .string ⟨#[]⟩, .slice none 0 0, .slice none 0 0] 213)) := keep_block RB_4.out G5.out (by simp; omega)
  have UB_5 : Hid (w5.heap[w3.heap.size]? = some (.cells #[.int .i64 num, .string ⟨#[]⟩, .slice none 0 0, .slice none 0 0, .string ⟨#[]⟩, .slice none 0 0, .slice none 0 0] 213)) := keep_block UB_4.out G5.out (by simp; omega)
  clear hg5 I5
  have JB : Hid (PInv w5 rb s (P.rlB s.data.toList sA).2) := J5
  rw [show (P.pathS s.data.toList (P.takeS s.data.toList sA (⟨#[123]⟩ : ByteArray).data.toList) (⟨#[112, 97, 116, 104]⟩ : ByteArray).data.toList).1 = (P.rlB s.data.toList sA).1 from rfl]
  have HP2 : Hid (res = P.ruleD s.data.toList num (P.rlB s.data.toList sA).1 (P.mtLoop s.data.toList (s.data.toList.length + 1) (P.rlB s.data.toList sA).2 [])) := HP.out
  clear HP
  generalize P.rlB s.data.toList sA = qb at *
  obtain ⟨pth, sB⟩ := qb
  simp only at JB HP2 ⊢
  have qUBl : w3.heap.size < w5.heap.size := block_lt UB_5.out
  have qUB1 : w5.cell? ⟨w3.heap.size, 1, none⟩ = some (.string ⟨#[]⟩) := cell_of_block UB_5.out
  have qUBf1 : w5.frozen? ⟨w3.heap.size, 1, none⟩ = false := frozen_of_block UB_5.out
  go_wp2_with fail
  have J6 : Hid _ := JB.out.other (grown_setCell w5 w3.heap.size 1 (.string (R.str pth))) (by omega)
  have C6 : Hid (w.grownBy (World.setCell w5 ⟨w3.heap.size, 1, none⟩ (.string (R.str pth))) (some rb)) := grown_new C5.out (grown_setCell w5 w3.heap.size 1 (.string (R.str pth))) (by omega)
  have RB_6 : Hid ((World.setCell w5 ⟨w3.heap.size, 1, none⟩ (.string (R.str pth))).heap[w.heap.size]? = some (.cells #[.int .i64 0, .string ⟨#[]⟩, .slice none 0 0, .slice none 0 0, .string ⟨#[]⟩, .slice none 0 0, .slice none 0 0] 213)) := keep_block RB_5.out (grown_setCell w5 w3.heap.size 1 (.string (R.str pth))) (by simp; omega)
  have UB_6 : Hid ((World.setCell w5 ⟨w3.heap.size, 1, none⟩ (.string (R.str pth))).heap[w3.heap.size]? = some (.cells #[.int .i64 num, .string (R.str pth), .slice none 0 0, .slice none 0 0, .string ⟨#[]⟩, .slice none 0 0, .slice none 0 0] 213)) := block_setCell UB_5.out (.string (R.str pth))
  have s6 : w5.heap.size ≤ (World.setCell w5 ⟨w3.heap.size, 1, none⟩ (.string (R.str pth))).heap.size := by simp [World.setCell]
  have y6 : (World.setCell w5 ⟨w3.heap.size, 1, none⟩ (.string (R.str pth))).heap.size ≤ w5.heap.size := by simp [World.setCell]
  generalize (World.setCell w5 ⟨w3.heap.size, 1, none⟩ (.string (R.str pth))) = w6 at *
  have b6 : rb < w6.heap.size := by omega
  have HP3 : Hid (res = P.ruleD s.data.toList num pth (P.mtLoop s.data.toList (s.data.toList.length + 1) sB [])) := HP2.out
  clear HP2
  generalize hQm : P.mtLoop s.data.toList (s.data.toList.length + 1) sB [] = Qm at *
  have HQm : Hid _ := hQm
  clear hQm
  have b0m := J6.out.bd
  go_loopw [] (fun wr => ∃ (n : Nat) (acc : List P.Mt) (p : P.St) (vL : Value), acc.length ≤ p.tok.at_ ∧ p.tok.at_ ≤ s.size ∧ s.size < n + p.tok.at_ ∧ Hid (P.mtLoop s.data.toList n p acc = Qm) ∧ Hid (PInv wr rb s p) ∧ Hid (w.grownBy wr (some rb)) ∧ Hid (wr.heap[w.heap.size]? = some (.cells #[.int .i64 0, .string ⟨#[]⟩, .slice none 0 0, .slice none 0 0, .string ⟨#[]⟩, .slice none 0 0, .slice none 0 0] 213)) ∧ Hid (wr.heap[w3.heap.size]? = some (.cells #[.int .i64 num, .string (R.str pth), vL, .slice none 0 0, .string ⟨#[]⟩, .slice none 0 0, .slice none 0 0] 213)) ∧ Hid (wr.ownsRow w.heap.size 276 3 vL acc.length (P.mtCells acc))) (fun wr => s.size + 1 - atOf wr rb)
  case atStart => exact ⟨s.data.toList.length + 1, [], sB, _, Nat.zero_le _, by omega, by rw [R.size_eq]; omega, HQm.out, J6, C6, RB_6.out, UB_6.out, World.ownsRow_nil _ _ _ _⟩
  case round =>
    obtain ⟨n, accm, pm, vL, hal, hpl, hnn, HL, IR, CR, RB_r, UB_r, HO_r⟩ := hrel
    have bwr : rb < wr.heap.size := block_lt IR.out.rd
    have zwr : w.heap.size ≤ wr.heap.size := CR.out.size
    have hzu : w3.heap.size < wr.heap.size := block_lt UB_r.out
    obtain ⟨n, rfl⟩ : ∃ m, n = m + 1 := ⟨n - 1, by omega⟩
    have HL1 := HL.out
    rw [P.mtLoop] at HL1
    obtain ⟨lam, lcm, rfl⟩ := len_row HO_r.out
    go_wp2_with fail
    refine (pro_sees IR.out _).mono ?_
    rintro e wLm1 ⟨rfl, ggLm1⟩
    have hgLm1 := grown_wide ggLm1 (some rb)
    have JLm1 : Hid _ := (IR.out).keep ggLm1
    have bLm1 : rb < wLm1.heap.size := block_lt JLm1.out.rd
    have sLm1 : wr.heap.size + 0 ≤ wLm1.heap.size := by have h := hgLm1.size; simpa using h
    have GLm1 : Hid (wr.grownBy wLm1 (some rb)) := hgLm1
    have CLm1 : Hid (w.grownBy wLm1 (some rb)) := grown_trans CR.out GLm1.out
    have zLm1 : w.heap.size ≤ wLm1.heap.size := CLm1.out.size
    have RB_Lm1 : Hid (wLm1.heap[w.heap.size]? = some (.cells #[.int .i64 0, .string ⟨#[]⟩, .slice none 0 0, .slice none 0 0, .string ⟨#[]⟩, .slice none 0 0, .slice none 0 0] 213)) := keep_block RB_r.out GLm1.out (by simp; omega)
    have UB_Lm1 : Hid (wLm1.heap[w3.heap.size]? = some (.cells #[.int .i64 num, .string (R.str pth), .slice lam accm.length lcm, .slice none 0 0, .string ⟨#[]⟩, .slice none 0 0, .slice none 0 0] 213)) := keep_block UB_r.out GLm1.out (by simp; omega)
    have HO_Lm1 : Hid _ := own_kept HO_r.out GLm1.out (by omega)
    clear hgLm1 ggLm1
    rw [show (⟨#[104, 101, 97, 100, 101, 114]⟩ : ByteArray).data.toList = R.wHeader from rfl]
    cases hgo : P.sees pm R.wHeader
    · rw [hgo] at HL1
      simp only [Bool.false_eq_true, if_false] at HL1
      have HFm : Hid (Qm = (accm, pm)) := HL1.symm
      clear HL1 HL
      rw [HFm.out] at HP3
      have HM_Lm1 : Hid _ := HO_Lm1
      go_wp2_with fail
      refine (pro_targets JLm1.out).mono ?_
      rintro e wT ⟨vT, rfl, IT, hgT, hrT, htb⟩
      obtain ⟨ta, tc, rfl⟩ := len_row hrT
      have JT : Hid _ := IT
      have bT : rb < wT.heap.size := block_lt JT.out.rd
      have sT : wLm1.heap.size ≤ wT.heap.size := hgT.size
      have CT : Hid (w.grownBy wT (some rb)) := grown_trans CLm1.out hgT
      have zT : w.heap.size ≤ wT.heap.size := CT.out.size
      have RB_T : Hid (wT.heap[w.heap.size]? = some (.cells #[.int .i64 0, .string ⟨#[]⟩, .slice none 0 0, .slice none 0 0, .string ⟨#[]⟩, .slice none 0 0, .slice none 0 0] 213)) := keep_block RB_Lm1.out hgT (by simp; omega)
      have UB_T : Hid (wT.heap[w3.heap.size]? = some (.cells #[.int .i64 num, .string (R.str pth), .slice lam accm.length lcm, .slice none 0 0, .string ⟨#[]⟩, .slice none 0 0, .slice none 0 0] 213)) := keep_block UB_Lm1.out hgT (by simp; omega)
      have HM_T : Hid _ := own_kept HM_Lm1.out hgT (by omega)
      have HT_T : Hid _ := row_base hrT (show w.heap.size ≤ wLm1.heap.size by omega)
      clear IT hgT hrT htb
      have HP3b : Hid (res = P.ruleE s.data.toList num pth accm (P.targetsS s.data.toList pm)) := HP3.out
      clear HP3
      generalize P.targetsS s.data.toList pm = pt at *
      obtain ⟨tl, sT2⟩ := pt
      simp only at JT HT_T HP3b
      have HP4 : Hid (res = P.ruleF s.data.toList num pth accm tl (P.rlC s.data.toList sT2) (P.stLoop s.data.toList (s.data.toList.length + 1) (P.rlC s.data.toList sT2).2 [])) := HP3b.out
      clear HP3b
      have qtl : w3.heap.size < wT.heap.size := block_lt UB_T.out
      have qt3 : wT.cell? ⟨w3.heap.size, 3, none⟩ = some (.slice none 0 0) := cell_of_block UB_T.out
      have qtf3 : wT.frozen? ⟨w3.heap.size, 3, none⟩ = false := frozen_of_block UB_T.out
      go_wp2_with fail
      have JEm1 : Hid _ := JT.out.other (grown_setCell wT w3.heap.size 3 (.slice ta tl.length tc)) (by omega)
      have CEm1 : Hid (w.grownBy (World.setCell wT ⟨w3.heap.size, 3, none⟩ (.slice ta tl.length tc)) (some rb)) := grown_new CT.out (grown_setCell wT w3.heap.size 3 (.slice ta tl.length tc)) (by omega)
      have RB_Em1 : Hid ((World.setCell wT ⟨w3.heap.size, 3, none⟩ (.slice ta tl.length tc)).heap[w.heap.size]? = some (.cells #[.int .i64 0, .string ⟨#[]⟩, .slice none 0 0, .slice none 0 0, .string ⟨#[]⟩, .slice none 0 0, .slice none 0 0] 213)) := keep_block RB_T.out (grown_setCell wT w3.heap.size 3 (.slice ta tl.length tc)) (by simp; omega)
      have UB_Em1 : Hid ((World.setCell wT ⟨w3.heap.size, 3, none⟩ (.slice ta tl.length tc)).heap[w3.heap.size]? = some (.cells #[.int .i64 num, .string (R.str pth), .slice lam accm.length lcm, .slice ta tl.length tc, .string ⟨#[]⟩, .slice none 0 0, .slice none 0 0] 213)) := block_setCell UB_T.out (.slice ta tl.length tc)
      have HM_Em1 : Hid _ := own_kept_box HM_T.out (grown_setCell wT w3.heap.size 3 (.slice ta tl.length tc)) (box_apart UB_T.out HM_T.out (by decide))
      have HT_Em1 : Hid _ := own_kept_box HT_T.out (grown_setCell wT w3.heap.size 3 (.slice ta tl.length tc)) (box_apart UB_T.out HT_T.out (by decide))
      have sEm1 : wT.heap.size ≤ (World.setCell wT ⟨w3.heap.size, 3, none⟩ (.slice ta tl.length tc)).heap.size := by simp [World.setCell]
      have yEm1 : (World.setCell wT ⟨w3.heap.size, 3, none⟩ (.slice ta tl.length tc)).heap.size ≤ wT.heap.size := by simp [World.setCell]
      generalize (World.setCell wT ⟨w3.heap.size, 3, none⟩ (.slice ta tl.length tc)) = wEm1 at *
      have bEm1 : rb < wEm1.heap.size := by omega
      refine (pro_sees JEm1.out _).mono ?_
      rintro e wEm2 ⟨rfl, ggEm2⟩
      have hgEm2 := grown_wide ggEm2 (some rb)
      have JEm2 : Hid _ := (JEm1.out).keep ggEm2
      have bEm2 : rb < wEm2.heap.size := block_lt JEm2.out.rd
      have sEm2 : wEm1.heap.size + 0 ≤ wEm2.heap.size := by have h := hgEm2.size; simpa using h
      have GEm2 : Hid (wEm1.grownBy wEm2 (some rb)) := hgEm2
      have CEm2 : Hid (w.grownBy wEm2 (some rb)) := grown_trans CEm1.out GEm2.out
      have zEm2 : w.heap.size ≤ wEm2.heap.size := CEm2.out.size
      have RB_Em2 : Hid (wEm2.heap[w.heap.size]? = some (.cells #[.int .i64 0, .string ⟨#[]⟩, .slice none 0 0, .slice none 0 0, .string ⟨#[]⟩, .slice none 0 0, .slice none 0 0] 213)) := keep_block RB_Em1.out GEm2.out (by simp; omega)
      have UB_Em2 : Hid (wEm2.heap[w3.heap.size]? = some (.cells #[.int .i64 num, .string (R.str pth), .slice lam accm.length lcm, .slice ta tl.length tc, .string ⟨#[]⟩, .slice none 0 0, .slice none 0 0] 213)) := keep_block UB_Em1.out GEm2.out (by simp; omega)
      have HM_Em2 : Hid _ := own_kept HM_Em1.out GEm2.out (by omega)
      have HT_Em2 : Hid _ := own_kept HT_Em1.out GEm2.out (by omega)
      clear hgEm2 ggEm2
      rw [show (⟨#[114, 101, 112, 108, 97, 99, 101]⟩ : ByteArray).data.toList = R.wReplace from rfl]
      have HCc : Hid (P.rlC s.data.toList sT2 = if P.sees sT2 R.wReplace then P.pathS s.data.toList sT2 R.wReplace else ([], sT2)) := rfl
      generalize P.rlC s.data.toList sT2 = pc at *
      obtain ⟨rep, sC⟩ := pc
      simp only at HP4
      cases hch : P.sees sT2 R.wReplace
      · rw [hch] at HCc
        simp only [Bool.false_eq_true, if_false] at HCc
        have HC1 : Hid (rep = []) := (Prod.mk.inj HCc.out).1
        have HC2 : Hid (sC = sT2) := (Prod.mk.inj HCc.out).2
        have JCn : Hid (PInv wEm2 rb s sC) := by rw [HC2.out]; exact JEm2.out
        have UB_q : Hid (wEm2.heap[w3.heap.size]? = some (.cells #[.int .i64 num, .string (R.str pth), .slice lam accm.length lcm, .slice ta tl.length tc, .string (R.str rep), .slice none 0 0, .slice none 0 0] 213)) := by rw [HC1.out]; exact UB_Em2.out
        go_wp2_with fail
        generalize hQs : P.stLoop s.data.toList (s.data.toList.length + 1) sC [] = Qs at *
        have HQs : Hid _ := hQs
        clear hQs
        have b0s := JCn.out.bd
        go_loopw [] (fun wr => ∃ (n : Nat) (acc : List (List UInt8 × List UInt8)) (p : P.St) (vL : Value), acc.length ≤ p.tok.at_ ∧ p.tok.at_ ≤ s.size ∧ s.size < n + p.tok.at_ ∧ Hid (P.stLoop s.data.toList n p acc = Qs) ∧ Hid (PInv wr rb s p) ∧ Hid (w.grownBy wr (some rb)) ∧ Hid (wr.heap[w.heap.size]? = some (.cells #[.int .i64 0, .string ⟨#[]⟩, .slice none 0 0, .slice none 0 0, .string ⟨#[]⟩, .slice none 0 0, .slice none 0 0] 213)) ∧ Hid (wr.heap[w3.heap.size]? = some (.cells #[.int .i64 num, .string (R.str pth), .slice lam accm.length lcm, .slice ta tl.length tc, .string (R.str rep), vL, .slice none 0 0] 213)) ∧ Hid (wr.ownsRow w.heap.size 280 2 vL acc.length (R.fdCells acc)) ∧ Hid (wr.ownsRow w.heap.size 276 3 (.slice lam accm.length lcm) accm.length (P.mtCells accm)) ∧ Hid (wr.ownsRow w.heap.size 285 2 (.slice ta tl.length tc) tl.length (R.tgCells tl))) (fun wr => s.size + 1 - atOf wr rb)
        case atStart => exact ⟨s.data.toList.length + 1, [], sC, _, Nat.zero_le _, by omega, by rw [R.size_eq]; omega, HQs.out, JCn, CEm2, RB_Em2.out, UB_q.out, World.ownsRow_nil _ _ _ _, HM_Em2.out, HT_Em2.out⟩
        case round =>
          obtain ⟨n, accs, ps, vL, hal, hpl, hnn, HL, IR, CR, RB_r, UB_r, HO_r, HM_r, HT_r⟩ := hrel
          have bwr : rb < wr.heap.size := block_lt IR.out.rd
          have zwr : w.heap.size ≤ wr.heap.size := CR.out.size
          have hzu : w3.heap.size < wr.heap.size := block_lt UB_r.out
          obtain ⟨n, rfl⟩ : ∃ m, n = m + 1 := ⟨n - 1, by omega⟩
          have HL1 := HL.out
          rw [P.stLoop] at HL1
          obtain ⟨las, lcs, rfl⟩ := len_row HO_r.out
          go_wp2_with fail
          refine (pro_sees IR.out _).mono ?_
          rintro e wLs1 ⟨rfl, ggLs1⟩
          have hgLs1 := grown_wide ggLs1 (some rb)
          have JLs1 : Hid _ := (IR.out).keep ggLs1
          have bLs1 : rb < wLs1.heap.size := block_lt JLs1.out.rd
          have sLs1 : wr.heap.size + 0 ≤ wLs1.heap.size := by have h := hgLs1.size; simpa using h
          have GLs1 : Hid (wr.grownBy wLs1 (some rb)) := hgLs1
          have CLs1 : Hid (w.grownBy wLs1 (some rb)) := grown_trans CR.out GLs1.out
          have zLs1 : w.heap.size ≤ wLs1.heap.size := CLs1.out.size
          have RB_Ls1 : Hid (wLs1.heap[w.heap.size]? = some (.cells #[.int .i64 0, .string ⟨#[]⟩, .slice none 0 0, .slice none 0 0, .string ⟨#[]⟩, .slice none 0 0, .slice none 0 0] 213)) := keep_block RB_r.out GLs1.out (by simp; omega)
          have UB_Ls1 : Hid (wLs1.heap[w3.heap.size]? = some (.cells #[.int .i64 num, .string (R.str pth), .slice lam accm.length lcm, .slice ta tl.length tc, .string (R.str rep), .slice las accs.length lcs, .slice none 0 0] 213)) := keep_block UB_r.out GLs1.out (by simp; omega)
          have HO_Ls1 : Hid _ := own_kept HO_r.out GLs1.out (by omega)
          have HM_Ls1 : Hid _ := own_kept HM_r.out GLs1.out (by omega)
          have HT_Ls1 : Hid _ := own_kept HT_r.out GLs1.out (by omega)
          clear hgLs1 ggLs1
          rw [show (⟨#[115, 101, 116]⟩ : ByteArray).data.toList = R.wSet from rfl]
          cases hgo : P.sees ps R.wSet
          · rw [hgo] at HL1
            simp only [Bool.false_eq_true, if_false] at HL1
            have HFs : Hid (Qs = (accs, ps)) := HL1.symm
            clear HL1 HL
            have HP5 : Hid (res = (⟨num, pth, accm, tl, rep, accs, (P.dpLoop s.data.toList (accs.map Prod.fst) (s.data.toList.length + 1) ps []).1⟩, P.takeS s.data.toList (P.dpLoop s.data.toList (accs.map Prod.fst) (s.data.toList.length + 1) ps []).2 [125])) := by
              show _ = _
              rw [HP4.out, HFs.out]; rfl
            clear HP4
            generalize hQd : P.dpLoop s.data.toList (accs.map Prod.fst) (s.data.toList.length + 1) ps [] = Qd at *
            have HQd : Hid _ := hQd
            clear hQd
            have hnA : accs.length ≤ 2000000000000 := by omega
            have HNA : Hid _ := hnA
            clear hnA
            have HS_Ls1 : Hid _ := HO_Ls1
            go_wp2_with fail
            have b0d := JLs1.out.bd
            go_loopw [] (fun wr => ∃ (n : Nat) (acc : List (List UInt8)) (p : P.St) (vL : Value), acc.length ≤ p.tok.at_ ∧ p.tok.at_ ≤ s.size ∧ s.size < n + p.tok.at_ ∧ Hid (P.dpLoop s.data.toList (accs.map Prod.fst) n p acc = Qd) ∧ Hid (PInv wr rb s p) ∧ Hid (w.grownBy wr (some rb)) ∧ Hid (wr.heap[w.heap.size]? = some (.cells #[.int .i64 0, .string ⟨#[]⟩, .slice none 0 0, .slice none 0 0, .string ⟨#[]⟩, .slice none 0 0, .slice none 0 0] 213)) ∧ Hid (wr.heap[w3.heap.size]? = some (.cells #[.int .i64 num, .string (R.str pth), .slice lam accm.length lcm, .slice ta tl.length tc, .string (R.str rep), .slice las accs.length lcs, vL] 213)) ∧ Hid (wr.ownsRow w.heap.size 9 1 vL acc.length (R.strCells acc)) ∧ Hid (wr.ownsRow w.heap.size 276 3 (.slice lam accm.length lcm) accm.length (P.mtCells accm)) ∧ Hid (wr.ownsRow w.heap.size 285 2 (.slice ta tl.length tc) tl.length (R.tgCells tl)) ∧ Hid (wr.ownsRow w.heap.size 280 2 (.slice las accs.length lcs) accs.length (R.fdCells accs))) (fun wr => s.size + 1 - atOf wr rb)
            case atStart => exact ⟨s.data.toList.length + 1, [], ps, _, Nat.zero_le _, by omega, by rw [R.size_eq]; omega, HQd.out, JLs1, CLs1, RB_Ls1.out, UB_Ls1.out, World.ownsRow_nil _ _ _ _, HM_Ls1.out, HT_Ls1.out, HS_Ls1.out⟩
            case round =>
              obtain ⟨n, accd, pd, vL, hal, hpl, hnn, HL, IR, CR, RB_r, UB_r, HO_r, HM_r, HT_r, HS_r⟩ := hrel
              have bwr : rb < wr.heap.size := block_lt IR.out.rd
              have zwr : w.heap.size ≤ wr.heap.size := CR.out.size
              have hzu : w3.heap.size < wr.heap.size := block_lt UB_r.out
              obtain ⟨n, rfl⟩ : ∃ m, n = m + 1 := ⟨n - 1, by omega⟩
              have HL1 := HL.out
              rw [P.dpLoop] at HL1
              obtain ⟨lad, lcd, rfl⟩ := len_row HO_r.out
              go_wp2_with fail
              refine (pro_sees IR.out _).mono ?_
              rintro e wLd1 ⟨rfl, ggLd1⟩
              have hgLd1 := grown_wide ggLd1 (some rb)
              have JLd1 : Hid _ := (IR.out).keep ggLd1
              have bLd1 : rb < wLd1.heap.size := block_lt JLd1.out.rd
              have sLd1 : wr.heap.size + 0 ≤ wLd1.heap.size := by have h := hgLd1.size; simpa using h
              have GLd1 : Hid (wr.grownBy wLd1 (some rb)) := hgLd1
              have CLd1 : Hid (w.grownBy wLd1 (some rb)) := grown_trans CR.out GLd1.out
              have zLd1 : w.heap.size ≤ wLd1.heap.size := CLd1.out.size
              have RB_Ld1 : Hid (wLd1.heap[w.heap.size]? = some (.cells #[.int .i64 0, .string ⟨#[]⟩, .slice none 0 0, .slice none 0 0, .string ⟨#[]⟩, .slice none 0 0, .slice none 0 0] 213)) := keep_block RB_r.out GLd1.out (by simp; omega)
              have UB_Ld1 : Hid (wLd1.heap[w3.heap.size]? = some (.cells #[.int .i64 num, .string (R.str pth), .slice lam accm.length lcm, .slice ta tl.length tc, .string (R.str rep), .slice las accs.length lcs, .slice lad accd.length lcd] 213)) := keep_block UB_r.out GLd1.out (by simp; omega)
              have HO_Ld1 : Hid _ := own_kept HO_r.out GLd1.out (by omega)
              have HM_Ld1 : Hid _ := own_kept HM_r.out GLd1.out (by omega)
              have HT_Ld1 : Hid _ := own_kept HT_r.out GLd1.out (by omega)
              have HS_Ld1 : Hid _ := own_kept HS_r.out GLd1.out (by omega)
              clear hgLd1 ggLd1
              rw [show (⟨#[100, 114, 111, 112]⟩ : ByteArray).data.toList = R.wDrop from rfl]
              cases hgo : P.sees pd R.wDrop
              · rw [hgo] at HL1
                simp only [Bool.false_eq_true, if_false] at HL1
                have HFd : Hid (Qd = (accd, pd)) := HL1.symm
                clear HL1 HL
                rw [HFd.out] at HP5
                simp only at HP5
                go_wp2_with fail
                refine (pro_take JLd1.out _).mono ?_
                rintro e wEd1 ⟨rfl, IEd1, hgEd1⟩
                have JEd1 : Hid _ := IEd1
                have bEd1 : rb < wEd1.heap.size := block_lt JEd1.out.rd
                have sEd1 : wLd1.heap.size + 0 ≤ wEd1.heap.size := by have h := hgEd1.size; simpa using h
                have GEd1 : Hid (wLd1.grownBy wEd1 (some rb)) := hgEd1
                have CEd1 : Hid (w.grownBy wEd1 (some rb)) := grown_trans CLd1.out GEd1.out
                have zEd1 : w.heap.size ≤ wEd1.heap.size := CEd1.out.size
                have RB_Ed1 : Hid (wEd1.heap[w.heap.size]? = some (.cells #[.int .i64 0, .string ⟨#[]⟩, .slice none 0 0, .slice none 0 0, .string ⟨#[]⟩, .slice none 0 0, .slice none 0 0] 213)) := keep_block RB_Ld1.out GEd1.out (by simp; omega)
                have UB_Ed1 : Hid (wEd1.heap[w3.heap.size]? = some (.cells #[.int .i64 num, .string (R.str pth), .slice lam accm.length lcm, .slice ta tl.length tc, .string (R.str rep), .slice las accs.length lcs, .slice lad accd.length lcd] 213)) := keep_block UB_Ld1.out GEd1.out (by simp; omega)
                have HO_Ed1 : Hid _ := own_kept HO_Ld1.out GEd1.out (by omega)
                have HM_Ed1 : Hid _ := own_kept HM_Ld1.out GEd1.out (by omega)
                have HT_Ed1 : Hid _ := own_kept HT_Ld1.out GEd1.out (by omega)
                have HS_Ed1 : Hid _ := own_kept HS_Ld1.out GEd1.out (by omega)
                clear hgEd1 IEd1
                rw [show (⟨#[125]⟩ : ByteArray).data.toList = [125] from rfl] at JEd1
                have qxl : w3.heap.size < wEd1.heap.size := block_lt UB_Ed1.out
                have qx0 : wEd1.cell? ⟨w3.heap.size, 0, none⟩ = some (.int .i64 num) := cell_of_block UB_Ed1.out
                have qx1 : wEd1.cell? ⟨w3.heap.size, 1, none⟩ = some (.string (R.str pth)) := cell_of_block UB_Ed1.out
                have qx2 : wEd1.cell? ⟨w3.heap.size, 2, none⟩ = some (.slice lam accm.length lcm) := cell_of_block UB_Ed1.out
                have qx3 : wEd1.cell? ⟨w3.heap.size, 3, none⟩ = some (.slice ta tl.length tc) := cell_of_block UB_Ed1.out
                have qx4 : wEd1.cell? ⟨w3.heap.size, 4, none⟩ = some (.string (R.str rep)) := cell_of_block UB_Ed1.out
                have qx5 : wEd1.cell? ⟨w3.heap.size, 5, none⟩ = some (.slice las accs.length lcs) := cell_of_block UB_Ed1.out
                have qx6 : wEd1.cell? ⟨w3.heap.size, 6, none⟩ = some (.slice lad accd.length lcd) := cell_of_block UB_Ed1.out
                have qyl : w.heap.size < wEd1.heap.size := block_lt RB_Ed1.out
                have qy0 : wEd1.cell? ⟨w.heap.size, 0, none⟩ = some (.int .i64 0) := cell_of_block RB_Ed1.out
                have qyf0 : wEd1.frozen? ⟨w.heap.size, 0, none⟩ = false := frozen_of_block RB_Ed1.out
                have qy1 : wEd1.cell? ⟨w.heap.size, 1, none⟩ = some (.string ⟨#[]⟩) := cell_of_block RB_Ed1.out
                have qyf1 : wEd1.frozen? ⟨w.heap.size, 1, none⟩ = false := frozen_of_block RB_Ed1.out
                have qy2 : wEd1.cell? ⟨w.heap.size, 2, none⟩ = some (.slice none 0 0) := cell_of_block RB_Ed1.out
                have qyf2 : wEd1.frozen? ⟨w.heap.size, 2, none⟩ = false := frozen_of_block RB_Ed1.out
                have qy3 : wEd1.cell? ⟨w.heap.size, 3, none⟩ = some (.slice none 0 0) := cell_of_block RB_Ed1.out
                have qyf3 : wEd1.frozen? ⟨w.heap.size, 3, none⟩ = false := frozen_of_block RB_Ed1.out
                have qy4 : wEd1.cell? ⟨w.heap.size, 4, none⟩ = some (.string ⟨#[]⟩) := cell_of_block RB_Ed1.out
                have qyf4 : wEd1.frozen? ⟨w.heap.size, 4, none⟩ = false := frozen_of_block RB_Ed1.out
                have qy5 : wEd1.cell? ⟨w.heap.size, 5, none⟩ = some (.slice none 0 0) := cell_of_block RB_Ed1.out
                have qyf5 : wEd1.frozen? ⟨w.heap.size, 5, none⟩ = false := frozen_of_block RB_Ed1.out
                have qy6 : wEd1.cell? ⟨w.heap.size, 6, none⟩ = some (.slice none 0 0) := cell_of_block RB_Ed1.out
                have qyf6 : wEd1.frozen? ⟨w.heap.size, 6, none⟩ = false := frozen_of_block RB_Ed1.out
                go_wp2
                have hs7 := grown_trans (grown_trans (grown_trans (grown_trans (grown_trans (grown_trans (grown_setCell wEd1 w.heap.size 0 (.int .i64 num)) (grown_setCell _ w.heap.size 1 (.string (R.str pth)))) (grown_setCell _ w.heap.size 2 (.slice lam accm.length lcm))) (grown_setCell _ w.heap.size 3 (.slice ta tl.length tc))) (grown_setCell _ w.heap.size 4 (.string (R.str rep)))) (grown_setCell _ w.heap.size 5 (.slice las accs.length lcs))) (grown_setCell _ w.heap.size 6 (.slice lad accd.length lcd))
                refine bodyPost_ret (v := .agg #[.int .i64 num, .string (R.str pth), .slice lam accm.length lcm, .slice ta tl.length tc, .string (R.str rep), .slice las accs.length lcs, .slice lad accd.length lcd]) (by simp [results, Tryz.results208, go_sem, qy0, qy1, qy2, qy3, qy4, qy5, qy6]) rfl ⟨[.int .i64 num, .string (R.str pth), .slice lam accm.length lcm, .slice ta tl.length tc, .string (R.str rep), .slice las accs.length lcs, .slice lad accd.length lcd], rfl, ?_, grown_new CEd1.out hs7 (Nat.le_refl _), ?_⟩
                · rw [HP5.out]; exact JEd1.out.other hs7 (by omega)
                · rw [HP5.out]
                  refine ⟨_, _, _, _, rfl, ?_, ?_, ?_, ?_⟩
                  · exact own_kept_box (row_base HM_Ed1.out (Nat.zero_le _)) hs7 (fun k hk => box_apart RB_Ed1.out HM_Ed1.out (by decide) k hk)
                  · exact own_kept_box (row_base HT_Ed1.out (Nat.zero_le _)) hs7 (fun k hk => box_apart RB_Ed1.out HT_Ed1.out (by decide) k hk)
                  · exact own_kept_box (row_base HS_Ed1.out (Nat.zero_le _)) hs7 (fun k hk => box_apart RB_Ed1.out HS_Ed1.out (by decide) k hk)
                  · exact own_kept_box (row_base HO_Ed1.out (Nat.zero_le _)) hs7 (fun k hk => box_apart RB_Ed1.out HO_Ed1.out (by decide) k hk)
              · rw [hgo] at HL1
                simp only [if_true] at HL1
                have hat := P.at_drop s.data.toList pd accd.length (accs.map Prod.fst ++ accd) hgo
                have HL2 : Hid _ := HL1
                clear HL1 HL
                have qgl : w3.heap.size < wLd1.heap.size := block_lt UB_Ld1.out
                have qg0 : wLd1.cell? ⟨w3.heap.size, 0, none⟩ = some (.int .i64 num) := cell_of_block UB_Ld1.out
                have qg1 : wLd1.cell? ⟨w3.heap.size, 1, none⟩ = some (.string (R.str pth)) := cell_of_block UB_Ld1.out
                have qg2 : wLd1.cell? ⟨w3.heap.size, 2, none⟩ = some (.slice lam accm.length lcm) := cell_of_block UB_Ld1.out
                have qg3 : wLd1.cell? ⟨w3.heap.size, 3, none⟩ = some (.slice ta tl.length tc) := cell_of_block UB_Ld1.out
                have qg4 : wLd1.cell? ⟨w3.heap.size, 4, none⟩ = some (.string (R.str rep)) := cell_of_block UB_Ld1.out
                have qg5 : wLd1.cell? ⟨w3.heap.size, 5, none⟩ = some (.slice las accs.length lcs) := cell_of_block UB_Ld1.out
                have qg6 : wLd1.cell? ⟨w3.heap.size, 6, none⟩ = some (.slice lad accd.length lcd) := cell_of_block UB_Ld1.out
                have HC : Hid (∀ w', wLd1.grownBy w' none → Calls Tryz.prog 275 #[.pointer (some ⟨rb, 0, none⟩), .agg #[.int .i64 num, .string (R.str pth), .slice lam accm.length lcm, .slice ta tl.length tc, .string (R.str rep), .slice las accs.length lcs, .slice lad accd.length lcd]] w' fun e w'' => e = .returned (.string (R.str (P.dropS s.data.toList pd accd.length (accs.map Prod.fst ++ accd)).1)) ∧ PInv w'' rb s (P.dropS s.data.toList pd accd.length (accs.map Prod.fst ++ accd)).2 ∧ w'.grownBy w'' (some rb)) := fun w' hg => pro_drop (JLd1.out.keep hg) _ _ _ _ _ _ _ accs accd (row_base (own_away HS_Ld1.out hg (fun _ _ => by simp)) (Nat.zero_le _)) (row_base (own_away HO_Ld1.out hg (fun _ _ => by simp)) (Nat.zero_le _)) HNA.out (by omega)
                generalize P.dropS s.data.toList pd accd.length (accs.map Prod.fst ++ accd) = qs at *
                obtain ⟨nw, p2⟩ := qs
                simp only at HL2 hat HC
                have H1D : Hid (∀ u ∈ ([.string (R.str nw)] : List Value), u.oneCell' = true) := by
                  intro u hu
                  simp only [List.mem_cons, List.mem_nil_iff, or_false] at hu
                  subst hu; rfl
                have HLD : Hid (accd.length + 1 ≤ maxLen) := by show _ ≤ _; unfold maxLen; omega
                go_wp2
                go_region_law (first | (refine step_append_lies _ rfl (.tmp 54) (.tmp 58) 22 rfl w.heap.size 9 id _ 1 16 Tryz.underlying22 di dz0 dz1 dz2 rfl (by decide) _ _ _ (by simp [Act.eval]) (World.ownsRow.alloc HO_N.out _) ⟨wN.heap.size, 0, none⟩ 1 1 [.string (R.str nw)] (by simp [Act.eval]) rfl HND.out H1D.out (by decide) HLD.out (by omega) HBD.out (wN.heap.size + 1) HZD.out ?_; intro g9 cap9 w9 hown9 hgrow9 hat9 hlt9; have far9 : ∀ k, (Value.slice lad accd.length lcd).ownBlock = some k → w.heap.size ≤ k := fun k hk => (World.ownsRow.lt HO_N.out k hk).1; have J9 : Hid (PInv w9 rb s p2) := (JN.out.keep (World.grownBy_alloc _ _ _)).away hgrow9 (fun k hk => by { have h1 := far9 k hk; omega }); have C9 : Hid (w.grownBy w9 (some rb)) := grown_far (grown_trans CN.out (World.grownBy_alloc _ _ _)) hgrow9 far9; have RB_9 : Hid (w9.heap[w.heap.size]? = some (.cells #[.int .i64 0, .string ⟨#[]⟩, .slice none 0 0, .slice none 0 0, .string ⟨#[]⟩, .slice none 0 0, .slice none 0 0] 213)) := keep_away (keep_block RB_N.out (World.grownBy_alloc _ _ none) (by simp)) hgrow9 (fun k hk => box_apart RB_N.out HO_N.out (by decide) k hk); have UB_9 : Hid (w9.heap[w3.heap.size]? = some (.cells #[.int .i64 num, .string (R.str pth), .slice lam accm.length lcm, .slice ta tl.length tc, .string (R.str rep), .slice las accs.length lcs, .slice lad accd.length lcd] 213)) := keep_away (keep_block UB_N.out (World.grownBy_alloc _ _ none) (by simp)) hgrow9 (fun k hk => box_apart UB_N.out HO_N.out (by decide) k hk); have HO_9 : Hid (w9.ownsRow w.heap.size 9 1 (.slice (some ⟨g9, 0, none⟩) (accd.length + 1) cap9) (accd ++ [nw]).length (R.strCells (accd ++ [nw]))) := by { show World.ownsRow _ _ _ _ _ _ _; rw [R.strCells_snoc, List.length_append]; exact hown9 }; have HM_9 : Hid _ := own_away (World.ownsRow.alloc HM_N.out _) hgrow9 (tag_apart HO_N.out HM_N.out (by decide)); have HT_9 : Hid _ := own_away (World.ownsRow.alloc HT_N.out _) hgrow9 (tag_apart HO_N.out HT_N.out (by decide)); have HS_9 : Hid _ := own_away (World.ownsRow.alloc HS_N.out _) hgrow9 (tag_apart HO_N.out HS_N.out (by decide)); have q9 : w9.cell? ⟨w3.heap.size, 6, none⟩ = some (.slice lad accd.length lcd) := cell_of_block UB_9.out; have q9f : w9.frozen? ⟨w3.heap.size, 6, none⟩ = false := frozen_of_block UB_9.out; clear hown9 hgrow9 far9) | (go_simp; go_at_call 275; refine (HC.out _ (grown_drew wLd1)).mono ?_; rintro e wN ⟨rfl, IN, hgN⟩; have GN : wLd1.grownBy wN (some rb) := grown_trans (grown_wide (grown_drew wLd1) _) hgN; have JN : Hid (PInv wN rb s p2) := IN; have CN : Hid (w.grownBy wN (some rb)) := grown_trans CLd1.out GN; have sN : wLd1.heap.size ≤ wN.heap.size := GN.size; have RB_N : Hid (wN.heap[w.heap.size]? = some (.cells #[.int .i64 0, .string ⟨#[]⟩, .slice none 0 0, .slice none 0 0, .string ⟨#[]⟩, .slice none 0 0, .slice none 0 0] 213)) := keep_block RB_Ld1.out GN (by simp; omega); have UB_N : Hid (wN.heap[w3.heap.size]? = some (.cells #[.int .i64 num, .string (R.str pth), .slice lam accm.length lcm, .slice ta tl.length tc, .string (R.str rep), .slice las accs.length lcs, .slice lad accd.length lcd] 213)) := keep_block UB_Ld1.out GN (by simp; omega); have HO_N : Hid _ := own_kept HO_Ld1.out GN (by omega); have HM_N : Hid _ := own_kept HM_Ld1.out GN (by omega); have HT_N : Hid _ := own_kept HT_Ld1.out GN (by omega); have HS_N : Hid _ := own_kept HS_Ld1.out GN (by omega); have qn0 : wN.cell? ⟨w3.heap.size, 0, none⟩ = some (.int .i64 num) := cell_of_block UB_N.out; have qn1 : wN.cell? ⟨w3.heap.size, 1, none⟩ = some (.string (R.str pth)) := cell_of_block UB_N.out; have qn2 : wN.cell? ⟨w3.heap.size, 2, none⟩ = some (.slice lam accm.length lcm) := cell_of_block UB_N.out; have qn3 : wN.cell? ⟨w3.heap.size, 3, none⟩ = some (.slice ta tl.length tc) := cell_of_block UB_N.out; have qn4 : wN.cell? ⟨w3.heap.size, 4, none⟩ = some (.string (R.str rep)) := cell_of_block UB_N.out; have qn5 : wN.cell? ⟨w3.heap.size, 5, none⟩ = some (.slice las accs.length lcs) := cell_of_block UB_N.out; have qn6 : wN.cell? ⟨w3.heap.size, 6, none⟩ = some (.slice lad accd.length lcd) := cell_of_block UB_N.out; have qnl : w3.heap.size < wN.heap.size := block_lt UB_N.out; have bN : rb < wN.heap.size := block_lt JN.out.rd; have HND : Hid (∀ j u, ([.string (R.str nw)] : List Value)[j]? = some u → (wN.alloc (.cells #[.string (R.str nw)] 9)).cell? ((⟨wN.heap.size, 0, none⟩ : Addr).add j) = some u) := cells_new wN #[_] _ _ rfl; have HBD : Hid (w.heap.size ≤ (wN.alloc (.cells #[.string (R.str nw)] 9)).heap.size) := by { show _ ≤ _; rw [show (wN.alloc (.cells #[.string (R.str nw)] 9)).heap.size = wN.heap.size + 1 from by simp]; omega }; have HZD : Hid ((wN.alloc (.cells #[.string (R.str nw)] 9)).heap.size = wN.heap.size + 1) := by { show _ = _; simp }; clear IN hgN GN))
                all_goals
                  have gS := grown_setCell w9 w3.heap.size 6 (.slice (some ⟨g9, 0, none⟩) (accd.length + 1) cap9)
                  have JS : Hid _ := J9.out.other gS (by omega)
                  have CS : Hid (w.grownBy (w9.setCell ⟨w3.heap.size, 6, none⟩ (.slice (some ⟨g9, 0, none⟩) (accd.length + 1) cap9)) (some rb)) := grown_new C9.out gS (by omega)
                  have RB_S : Hid ((w9.setCell ⟨w3.heap.size, 6, none⟩ (.slice (some ⟨g9, 0, none⟩) (accd.length + 1) cap9)).heap[w.heap.size]? = some (.cells #[.int .i64 0, .string ⟨#[]⟩, .slice none 0 0, .slice none 0 0, .string ⟨#[]⟩, .slice none 0 0, .slice none 0 0] 213)) := keep_block RB_9.out gS (by simp; omega)
                  have UB_S : Hid ((w9.setCell ⟨w3.heap.size, 6, none⟩ (.slice (some ⟨g9, 0, none⟩) (accd.length + 1) cap9)).heap[w3.heap.size]? = some (.cells #[.int .i64 num, .string (R.str pth), .slice lam accm.length lcm, .slice ta tl.length tc, .string (R.str rep), .slice las accs.length lcs, .slice (some ⟨g9, 0, none⟩) (accd.length + 1) cap9] 213)) := block_setCell UB_9.out _
                  have HO_S : Hid _ := own_kept_box HO_9.out gS (box_apart UB_9.out HO_9.out (by decide))
                  have HM_S : Hid _ := own_kept_box HM_9.out gS (box_apart UB_9.out HM_9.out (by decide))
                  have HT_S : Hid _ := own_kept_box HT_9.out gS (box_apart UB_9.out HT_9.out (by decide))
                  have HS_S : Hid _ := own_kept_box HS_9.out gS (box_apart UB_9.out HS_9.out (by decide))
                  have HMe : Hid (atOf (w9.setCell ⟨w3.heap.size, 6, none⟩ (.slice (some ⟨g9, 0, none⟩) (accd.length + 1) cap9)) rb = p2.tok.at_) := atOf_of JS.out
                  have HM0 : Hid (atOf wr rb = pd.tok.at_) := atOf_of IR.out
                  have hb2 := JS.out.bd
                  clear gS
                  go_wp2
                  go_roundw
                  case rel => exact ⟨n, accd ++ [nw], p2, _, by rw [List.length_append]; simp; omega, by omega, by omega, HL2, JS, CS, RB_S, UB_S, HO_S, HM_S, HT_S, HS_S⟩
                  case measure => rw [HMe.out, HM0.out]; omega
          · rw [hgo] at HL1
            simp only [if_true] at HL1
            have hat := P.at_set s.data.toList ps accs.length (accs.map Prod.fst) hgo
            have HL2 : Hid _ := HL1
            clear HL1 HL
            have qgl : w3.heap.size < wLs1.heap.size := block_lt UB_Ls1.out
            have qg0 : wLs1.cell? ⟨w3.heap.size, 0, none⟩ = some (.int .i64 num) := cell_of_block UB_Ls1.out
            have qg1 : wLs1.cell? ⟨w3.heap.size, 1, none⟩ = some (.string (R.str pth)) := cell_of_block UB_Ls1.out
            have qg2 : wLs1.cell? ⟨w3.heap.size, 2, none⟩ = some (.slice lam accm.length lcm) := cell_of_block UB_Ls1.out
            have qg3 : wLs1.cell? ⟨w3.heap.size, 3, none⟩ = some (.slice ta tl.length tc) := cell_of_block UB_Ls1.out
            have qg4 : wLs1.cell? ⟨w3.heap.size, 4, none⟩ = some (.string (R.str rep)) := cell_of_block UB_Ls1.out
            have qg5 : wLs1.cell? ⟨w3.heap.size, 5, none⟩ = some (.slice las accs.length lcs) := cell_of_block UB_Ls1.out
            have qg6 : wLs1.cell? ⟨w3.heap.size, 6, none⟩ = some (.slice none 0 0) := cell_of_block UB_Ls1.out
            have HC : Hid (∀ w', wLs1.grownBy w' none → Calls Tryz.prog 274 #[.pointer (some ⟨rb, 0, none⟩), .agg #[.int .i64 num, .string (R.str pth), .slice lam accm.length lcm, .slice ta tl.length tc, .string (R.str rep), .slice las accs.length lcs, .slice none 0 0]] w' fun e w'' => e = .returned (.agg #[.string (R.str (P.setS s.data.toList ps accs.length (accs.map Prod.fst)).1.1), .string (R.str (P.setS s.data.toList ps accs.length (accs.map Prod.fst)).1.2)]) ∧ PInv w'' rb s (P.setS s.data.toList ps accs.length (accs.map Prod.fst)).2 ∧ w'.grownBy w'' (some rb)) := fun w' hg => by
              have := pro_set (JLs1.out.keep hg) (.int .i64 num) (.string (R.str pth)) (.slice lam accm.length lcm) (.slice ta tl.length tc) (.string (R.str rep)) (.slice las accs.length lcs) (.slice none 0 0) accs [] (row_base (own_away HO_Ls1.out hg (fun _ _ => by simp)) (Nat.zero_le _)) (World.ownsRow_nil _ _ _ _) (by omega) (by simp)
              rw [List.append_nil] at this; exact this
            generalize P.setS s.data.toList ps accs.length (accs.map Prod.fst) = qs at *
            obtain ⟨nw, p2⟩ := qs
            simp only at HL2 hat HC
            have H1D : Hid (∀ u ∈ ([.string (R.str nw.1), .string (R.str nw.2)] : List Value), u.oneCell' = true) := by
              intro u hu
              simp only [List.mem_cons, List.mem_nil_iff, or_false] at hu
              rcases hu with rfl | rfl <;> rfl
            have HLD : Hid (accs.length + 1 ≤ maxLen) := by show _ ≤ _; unfold maxLen; omega
            go_wp2
            go_region_law (first | (refine step_append_lies _ rfl (.tmp 44) (.tmp 48) 211 rfl w.heap.size 280 is _ 2 32 Tryz.underlying211 si sz0 sz1 sz2 rfl (by decide) _ _ _ (by simp [Act.eval]) (World.ownsRow.alloc HO_N.out _) ⟨wN.heap.size, 0, none⟩ 1 1 [.string (R.str nw.1), .string (R.str nw.2)] (by simp [Act.eval]) rfl HND.out H1D.out (by decide) HLD.out (by omega) HBD.out (wN.heap.size + 1) HZD.out ?_; intro g9 cap9 w9 hown9 hgrow9 hat9 hlt9; have far9 : ∀ k, (Value.slice las accs.length lcs).ownBlock = some k → w.heap.size ≤ k := fun k hk => (World.ownsRow.lt HO_N.out k hk).1; have J9 : Hid (PInv w9 rb s p2) := (JN.out.keep (World.grownBy_alloc _ _ _)).away hgrow9 (fun k hk => by { have h1 := far9 k hk; omega }); have C9 : Hid (w.grownBy w9 (some rb)) := grown_far (grown_trans CN.out (World.grownBy_alloc _ _ _)) hgrow9 far9; have RB_9 : Hid (w9.heap[w.heap.size]? = some (.cells #[.int .i64 0, .string ⟨#[]⟩, .slice none 0 0, .slice none 0 0, .string ⟨#[]⟩, .slice none 0 0, .slice none 0 0] 213)) := keep_away (keep_block RB_N.out (World.grownBy_alloc _ _ none) (by simp)) hgrow9 (fun k hk => box_apart RB_N.out HO_N.out (by decide) k hk); have UB_9 : Hid (w9.heap[w3.heap.size]? = some (.cells #[.int .i64 num, .string (R.str pth), .slice lam accm.length lcm, .slice ta tl.length tc, .string (R.str rep), .slice las accs.length lcs, .slice none 0 0] 213)) := keep_away (keep_block UB_N.out (World.grownBy_alloc _ _ none) (by simp)) hgrow9 (fun k hk => box_apart UB_N.out HO_N.out (by decide) k hk); have HO_9 : Hid (w9.ownsRow w.heap.size 280 2 (.slice (some ⟨g9, 0, none⟩) (accs.length + 1) cap9) (accs ++ [nw]).length (R.fdCells (accs ++ [nw]))) := by { show World.ownsRow _ _ _ _ _ _ _; rw [R.fdCells_snoc, List.length_append]; exact hown9 }; have HM_9 : Hid _ := own_away (World.ownsRow.alloc HM_N.out _) hgrow9 (tag_apart HO_N.out HM_N.out (by decide)); have HT_9 : Hid _ := own_away (World.ownsRow.alloc HT_N.out _) hgrow9 (tag_apart HO_N.out HT_N.out (by decide)); have q9 : w9.cell? ⟨w3.heap.size, 5, none⟩ = some (.slice las accs.length lcs) := cell_of_block UB_9.out; have q9f : w9.frozen? ⟨w3.heap.size, 5, none⟩ = false := frozen_of_block UB_9.out; clear hown9 hgrow9 far9) | (go_simp; go_at_call 274; refine (HC.out _ (grown_drew wLs1)).mono ?_; rintro e wN ⟨rfl, IN, hgN⟩; have GN : wLs1.grownBy wN (some rb) := grown_trans (grown_wide (grown_drew wLs1) _) hgN; have JN : Hid (PInv wN rb s p2) := IN; have CN : Hid (w.grownBy wN (some rb)) := grown_trans CLs1.out GN; have sN : wLs1.heap.size ≤ wN.heap.size := GN.size; have RB_N : Hid (wN.heap[w.heap.size]? = some (.cells #[.int .i64 0, .string ⟨#[]⟩, .slice none 0 0, .slice none 0 0, .string ⟨#[]⟩, .slice none 0 0, .slice none 0 0] 213)) := keep_block RB_Ls1.out GN (by simp; omega); have UB_N : Hid (wN.heap[w3.heap.size]? = some (.cells #[.int .i64 num, .string (R.str pth), .slice lam accm.length lcm, .slice ta tl.length tc, .string (R.str rep), .slice las accs.length lcs, .slice none 0 0] 213)) := keep_block UB_Ls1.out GN (by simp; omega); have HO_N : Hid _ := own_kept HO_Ls1.out GN (by omega); have HM_N : Hid _ := own_kept HM_Ls1.out GN (by omega); have HT_N : Hid _ := own_kept HT_Ls1.out GN (by omega); have qn0 : wN.cell? ⟨w3.heap.size, 0, none⟩ = some (.int .i64 num) := cell_of_block UB_N.out; have qn1 : wN.cell? ⟨w3.heap.size, 1, none⟩ = some (.string (R.str pth)) := cell_of_block UB_N.out; have qn2 : wN.cell? ⟨w3.heap.size, 2, none⟩ = some (.slice lam accm.length lcm) := cell_of_block UB_N.out; have qn3 : wN.cell? ⟨w3.heap.size, 3, none⟩ = some (.slice ta tl.length tc) := cell_of_block UB_N.out; have qn4 : wN.cell? ⟨w3.heap.size, 4, none⟩ = some (.string (R.str rep)) := cell_of_block UB_N.out; have qn5 : wN.cell? ⟨w3.heap.size, 5, none⟩ = some (.slice las accs.length lcs) := cell_of_block UB_N.out; have qn6 : wN.cell? ⟨w3.heap.size, 6, none⟩ = some (.slice none 0 0) := cell_of_block UB_N.out; have qnl : w3.heap.size < wN.heap.size := block_lt UB_N.out; have bN : rb < wN.heap.size := block_lt JN.out.rd; have HND : Hid (∀ j u, ([.string (R.str nw.1), .string (R.str nw.2)] : List Value)[j]? = some u → (wN.alloc (.cells #[.string (R.str nw.1), .string (R.str nw.2)] 280)).cell? ((⟨wN.heap.size, 0, none⟩ : Addr).add j) = some u) := cells_new wN #[_, _] _ _ rfl; have HBD : Hid (w.heap.size ≤ (wN.alloc (.cells #[.string (R.str nw.1), .string (R.str nw.2)] 280)).heap.size) := by { show _ ≤ _; rw [show (wN.alloc (.cells #[.string (R.str nw.1), .string (R.str nw.2)] 280)).heap.size = wN.heap.size + 1 from by simp]; omega }; have HZD : Hid ((wN.alloc (.cells #[.string (R.str nw.1), .string (R.str nw.2)] 280)).heap.size = wN.heap.size + 1) := by { show _ = _; simp }; clear IN hgN GN))
            all_goals
              have gS := grown_setCell w9 w3.heap.size 5 (.slice (some ⟨g9, 0, none⟩) (accs.length + 1) cap9)
              have JS : Hid _ := J9.out.other gS (by omega)
              have CS : Hid (w.grownBy (w9.setCell ⟨w3.heap.size, 5, none⟩ (.slice (some ⟨g9, 0, none⟩) (accs.length + 1) cap9)) (some rb)) := grown_new C9.out gS (by omega)
              have RB_S : Hid ((w9.setCell ⟨w3.heap.size, 5, none⟩ (.slice (some ⟨g9, 0, none⟩) (accs.length + 1) cap9)).heap[w.heap.size]? = some (.cells #[.int .i64 0, .string ⟨#[]⟩, .slice none 0 0, .slice none 0 0, .string ⟨#[]⟩, .slice none 0 0, .slice none 0 0] 213)) := keep_block RB_9.out gS (by simp; omega)
              have UB_S : Hid ((w9.setCell ⟨w3.heap.size, 5, none⟩ (.slice (some ⟨g9, 0, none⟩) (accs.length + 1) cap9)).heap[w3.heap.size]? = some (.cells #[.int .i64 num, .string (R.str pth), .slice lam accm.length lcm, .slice ta tl.length tc, .string (R.str rep), .slice (some ⟨g9, 0, none⟩) (accs.length + 1) cap9, .slice none 0 0] 213)) := block_setCell UB_9.out _
              have HO_S : Hid _ := own_kept_box HO_9.out gS (box_apart UB_9.out HO_9.out (by decide))
              have HM_S : Hid _ := own_kept_box HM_9.out gS (box_apart UB_9.out HM_9.out (by decide))
              have HT_S : Hid _ := own_kept_box HT_9.out gS (box_apart UB_9.out HT_9.out (by decide))
              have HMe : Hid (atOf (w9.setCell ⟨w3.heap.size, 5, none⟩ (.slice (some ⟨g9, 0, none⟩) (accs.length + 1) cap9)) rb = p2.tok.at_) := atOf_of JS.out
              have HM0 : Hid (atOf wr rb = ps.tok.at_) := atOf_of IR.out
              have hb2 := JS.out.bd
              clear gS
              go_wp2
              go_roundw
              case rel => exact ⟨n, accs ++ [nw], p2, _, by rw [List.length_append]; simp; omega, by omega, by omega, HL2, JS, CS, RB_S, UB_S, HO_S, HM_S, HT_S⟩
              case measure => rw [HMe.out, HM0.out]; omega
      · rw [hch] at HCc
        simp only [if_true] at HCc
        go_wp2_with fail
        refine (pro_path JEm2.out _).mono ?_
        rintro e wEmy1 ⟨rfl, IEmy1, hgEmy1⟩
        have JEmy1 : Hid _ := IEmy1
        have bEmy1 : rb < wEmy1.heap.size := block_lt JEmy1.out.rd
        have sEmy1 : wEm2.heap.size + 0 ≤ wEmy1.heap.size := by have h := hgEmy1.size; simpa using h
        have GEmy1 : Hid (wEm2.grownBy wEmy1 (some rb)) := hgEmy1
        have CEmy1 : Hid (w.grownBy wEmy1 (some rb)) := grown_trans CEm2.out GEmy1.out
        have zEmy1 : w.heap.size ≤ wEmy1.heap.size := CEmy1.out.size
        have RB_Emy1 : Hid (wEmy1.heap[w.heap.size]? = some (.cells #[.int .i64 0, .string ⟨#[]⟩, .slice none 0 0, .slice none 0 0, .string ⟨#[]⟩, .slice none 0 0, .slice none 0 0] 213)) := keep_block RB_Em2.out GEmy1.out (by simp; omega)
        have UB_Emy1 : Hid (wEmy1.heap[w3.heap.size]? = some (.cells #[.int .i64 num, .string (R.str pth), .slice lam accm.length lcm, .slice ta tl.length tc, .string ⟨#[]⟩, .slice none 0 0, .slice none 0 0] 213)) := keep_block UB_Em2.out GEmy1.out (by simp; omega)
        have HM_Emy1 : Hid _ := own_kept HM_Em2.out GEmy1.out (by omega)
        have HT_Emy1 : Hid _ := own_kept HT_Em2.out GEmy1.out (by omega)
        clear hgEmy1 IEmy1
        rw [show (⟨#[114, 101, 112, 108, 97, 99, 101]⟩ : ByteArray).data.toList = R.wReplace from rfl, ← HCc.out] at JEmy1
        rw [show (⟨#[114, 101, 112, 108, 97, 99, 101]⟩ : ByteArray).data.toList = R.wReplace from rfl, ← HCc.out]
        simp only at JEmy1 ⊢
        have qpl : w3.heap.size < wEmy1.heap.size := block_lt UB_Emy1.out
        have qp4 : wEmy1.cell? ⟨w3.heap.size, 4, none⟩ = some (.string ⟨#[]⟩) := cell_of_block UB_Emy1.out
        have qpf4 : wEmy1.frozen? ⟨w3.heap.size, 4, none⟩ = false := frozen_of_block UB_Emy1.out
        go_wp2_with fail
        have JEmy2 : Hid _ := JEmy1.out.other (grown_setCell wEmy1 w3.heap.size 4 (.string (R.str rep))) (by omega)
        have CEmy2 : Hid (w.grownBy (World.setCell wEmy1 ⟨w3.heap.size, 4, none⟩ (.string (R.str rep))) (some rb)) := grown_new CEmy1.out (grown_setCell wEmy1 w3.heap.size 4 (.string (R.str rep))) (by omega)
        have RB_Emy2 : Hid ((World.setCell wEmy1 ⟨w3.heap.size, 4, none⟩ (.string (R.str rep))).heap[w.heap.size]? = some (.cells #[.int .i64 0, .string ⟨#[]⟩, .slice none 0 0, .slice none 0 0, .string ⟨#[]⟩, .slice none 0 0, .slice none 0 0] 213)) := keep_block RB_Emy1.out (grown_setCell wEmy1 w3.heap.size 4 (.string (R.str rep))) (by simp; omega)
        have UB_Emy2 : Hid ((World.setCell wEmy1 ⟨w3.heap.size, 4, none⟩ (.string (R.str rep))).heap[w3.heap.size]? = some (.cells #[.int .i64 num, .string (R.str pth), .slice lam accm.length lcm, .slice ta tl.length tc, .string (R.str rep), .slice none 0 0, .slice none 0 0] 213)) := block_setCell UB_Emy1.out (.string (R.str rep))
        have HM_Emy2 : Hid _ := own_kept_box HM_Emy1.out (grown_setCell wEmy1 w3.heap.size 4 (.string (R.str rep))) (box_apart UB_Emy1.out HM_Emy1.out (by decide))
        have HT_Emy2 : Hid _ := own_kept_box HT_Emy1.out (grown_setCell wEmy1 w3.heap.size 4 (.string (R.str rep))) (box_apart UB_Emy1.out HT_Emy1.out (by decide))
        have sEmy2 : wEmy1.heap.size ≤ (World.setCell wEmy1 ⟨w3.heap.size, 4, none⟩ (.string (R.str rep))).heap.size := by simp [World.setCell]
        have yEmy2 : (World.setCell wEmy1 ⟨w3.heap.size, 4, none⟩ (.string (R.str rep))).heap.size ≤ wEmy1.heap.size := by simp [World.setCell]
        generalize (World.setCell wEmy1 ⟨w3.heap.size, 4, none⟩ (.string (R.str rep))) = wEmy2 at *
        have bEmy2 : rb < wEmy2.heap.size := by omega
        generalize hQs : P.stLoop s.data.toList (s.data.toList.length + 1) sC [] = Qs at *
        have HQs : Hid _ := hQs
        clear hQs
        have b0s := JEmy2.out.bd
        go_loopw [] (fun wr => ∃ (n : Nat) (acc : List (List UInt8 × List UInt8)) (p : P.St) (vL : Value), acc.length ≤ p.tok.at_ ∧ p.tok.at_ ≤ s.size ∧ s.size < n + p.tok.at_ ∧ Hid (P.stLoop s.data.toList n p acc = Qs) ∧ Hid (PInv wr rb s p) ∧ Hid (w.grownBy wr (some rb)) ∧ Hid (wr.heap[w.heap.size]? = some (.cells #[.int .i64 0, .string ⟨#[]⟩, .slice none 0 0, .slice none 0 0, .string ⟨#[]⟩, .slice none 0 0, .slice none 0 0] 213)) ∧ Hid (wr.heap[w3.heap.size]? = some (.cells #[.int .i64 num, .string (R.str pth), .slice lam accm.length lcm, .slice ta tl.length tc, .string (R.str rep), vL, .slice none 0 0] 213)) ∧ Hid (wr.ownsRow w.heap.size 280 2 vL acc.length (R.fdCells acc)) ∧ Hid (wr.ownsRow w.heap.size 276 3 (.slice lam accm.length lcm) accm.length (P.mtCells accm)) ∧ Hid (wr.ownsRow w.heap.size 285 2 (.slice ta tl.length tc) tl.length (R.tgCells tl))) (fun wr => s.size + 1 - atOf wr rb)
        case atStart => exact ⟨s.data.toList.length + 1, [], sC, _, Nat.zero_le _, by omega, by rw [R.size_eq]; omega, HQs.out, JEmy2, CEmy2, RB_Emy2.out, UB_Emy2.out, World.ownsRow_nil _ _ _ _, HM_Emy2.out, HT_Emy2.out⟩
        case round =>
          obtain ⟨n, accs, ps, vL, hal, hpl, hnn, HL, IR, CR, RB_r, UB_r, HO_r, HM_r, HT_r⟩ := hrel
          have bwr : rb < wr.heap.size := block_lt IR.out.rd
          have zwr : w.heap.size ≤ wr.heap.size := CR.out.size
          have hzu : w3.heap.size < wr.heap.size := block_lt UB_r.out
          obtain ⟨n, rfl⟩ : ∃ m, n = m + 1 := ⟨n - 1, by omega⟩
          have HL1 := HL.out
          rw [P.stLoop] at HL1
          obtain ⟨las, lcs, rfl⟩ := len_row HO_r.out
          go_wp2_with fail
          refine (pro_sees IR.out _).mono ?_
          rintro e wLs1 ⟨rfl, ggLs1⟩
          have hgLs1 := grown_wide ggLs1 (some rb)
          have JLs1 : Hid _ := (IR.out).keep ggLs1
          have bLs1 : rb < wLs1.heap.size := block_lt JLs1.out.rd
          have sLs1 : wr.heap.size + 0 ≤ wLs1.heap.size := by have h := hgLs1.size; simpa using h
          have GLs1 : Hid (wr.grownBy wLs1 (some rb)) := hgLs1
          have CLs1 : Hid (w.grownBy wLs1 (some rb)) := grown_trans CR.out GLs1.out
          have zLs1 : w.heap.size ≤ wLs1.heap.size := CLs1.out.size
          have RB_Ls1 : Hid (wLs1.heap[w.heap.size]? = some (.cells #[.int .i64 0, .string ⟨#[]⟩, .slice none 0 0, .slice none 0 0, .string ⟨#[]⟩, .slice none 0 0, .slice none 0 0] 213)) := keep_block RB_r.out GLs1.out (by simp; omega)
          have UB_Ls1 : Hid (wLs1.heap[w3.heap.size]? = some (.cells #[.int .i64 num, .string (R.str pth), .slice lam accm.length lcm, .slice ta tl.length tc, .string (R.str rep), .slice las accs.length lcs, .slice none 0 0] 213)) := keep_block UB_r.out GLs1.out (by simp; omega)
          have HO_Ls1 : Hid _ := own_kept HO_r.out GLs1.out (by omega)
          have HM_Ls1 : Hid _ := own_kept HM_r.out GLs1.out (by omega)
          have HT_Ls1 : Hid _ := own_kept HT_r.out GLs1.out (by omega)
          clear hgLs1 ggLs1
          rw [show (⟨#[115, 101, 116]⟩ : ByteArray).data.toList = R.wSet from rfl]
          cases hgo : P.sees ps R.wSet
          · rw [hgo] at HL1
            simp only [Bool.false_eq_true, if_false] at HL1
            have HFs : Hid (Qs = (accs, ps)) := HL1.symm
            clear HL1 HL
            have HP5 : Hid (res = (⟨num, pth, accm, tl, rep, accs, (P.dpLoop s.data.toList (accs.map Prod.fst) (s.data.toList.length + 1) ps []).1⟩, P.takeS s.data.toList (P.dpLoop s.data.toList (accs.map Prod.fst) (s.data.toList.length + 1) ps []).2 [125])) := by
              show _ = _
              rw [HP4.out, HFs.out]; rfl
            clear HP4
            generalize hQd : P.dpLoop s.data.toList (accs.map Prod.fst) (s.data.toList.length + 1) ps [] = Qd at *
            have HQd : Hid _ := hQd
            clear hQd
            have hnA : accs.length ≤ 2000000000000 := by omega
            have HNA : Hid _ := hnA
            clear hnA
            have HS_Ls1 : Hid _ := HO_Ls1
            go_wp2_with fail
            have b0d := JLs1.out.bd
            go_loopw [] (fun wr => ∃ (n : Nat) (acc : List (List UInt8)) (p : P.St) (vL : Value), acc.length ≤ p.tok.at_ ∧ p.tok.at_ ≤ s.size ∧ s.size < n + p.tok.at_ ∧ Hid (P.dpLoop s.data.toList (accs.map Prod.fst) n p acc = Qd) ∧ Hid (PInv wr rb s p) ∧ Hid (w.grownBy wr (some rb)) ∧ Hid (wr.heap[w.heap.size]? = some (.cells #[.int .i64 0, .string ⟨#[]⟩, .slice none 0 0, .slice none 0 0, .string ⟨#[]⟩, .slice none 0 0, .slice none 0 0] 213)) ∧ Hid (wr.heap[w3.heap.size]? = some (.cells #[.int .i64 num, .string (R.str pth), .slice lam accm.length lcm, .slice ta tl.length tc, .string (R.str rep), .slice las accs.length lcs, vL] 213)) ∧ Hid (wr.ownsRow w.heap.size 9 1 vL acc.length (R.strCells acc)) ∧ Hid (wr.ownsRow w.heap.size 276 3 (.slice lam accm.length lcm) accm.length (P.mtCells accm)) ∧ Hid (wr.ownsRow w.heap.size 285 2 (.slice ta tl.length tc) tl.length (R.tgCells tl)) ∧ Hid (wr.ownsRow w.heap.size 280 2 (.slice las accs.length lcs) accs.length (R.fdCells accs))) (fun wr => s.size + 1 - atOf wr rb)
            case atStart => exact ⟨s.data.toList.length + 1, [], ps, _, Nat.zero_le _, by omega, by rw [R.size_eq]; omega, HQd.out, JLs1, CLs1, RB_Ls1.out, UB_Ls1.out, World.ownsRow_nil _ _ _ _, HM_Ls1.out, HT_Ls1.out, HS_Ls1.out⟩
            case round =>
              obtain ⟨n, accd, pd, vL, hal, hpl, hnn, HL, IR, CR, RB_r, UB_r, HO_r, HM_r, HT_r, HS_r⟩ := hrel
              have bwr : rb < wr.heap.size := block_lt IR.out.rd
              have zwr : w.heap.size ≤ wr.heap.size := CR.out.size
              have hzu : w3.heap.size < wr.heap.size := block_lt UB_r.out
              obtain ⟨n, rfl⟩ : ∃ m, n = m + 1 := ⟨n - 1, by omega⟩
              have HL1 := HL.out
              rw [P.dpLoop] at HL1
              obtain ⟨lad, lcd, rfl⟩ := len_row HO_r.out
              go_wp2_with fail
              refine (pro_sees IR.out _).mono ?_
              rintro e wLd1 ⟨rfl, ggLd1⟩
              have hgLd1 := grown_wide ggLd1 (some rb)
              have JLd1 : Hid _ := (IR.out).keep ggLd1
              have bLd1 : rb < wLd1.heap.size := block_lt JLd1.out.rd
              have sLd1 : wr.heap.size + 0 ≤ wLd1.heap.size := by have h := hgLd1.size; simpa using h
              have GLd1 : Hid (wr.grownBy wLd1 (some rb)) := hgLd1
              have CLd1 : Hid (w.grownBy wLd1 (some rb)) := grown_trans CR.out GLd1.out
              have zLd1 : w.heap.size ≤ wLd1.heap.size := CLd1.out.size
              have RB_Ld1 : Hid (wLd1.heap[w.heap.size]? = some (.cells #[.int .i64 0, .string ⟨#[]⟩, .slice none 0 0, .slice none 0 0, .string ⟨#[]⟩, .slice none 0 0, .slice none 0 0] 213)) := keep_block RB_r.out GLd1.out (by simp; omega)
              have UB_Ld1 : Hid (wLd1.heap[w3.heap.size]? = some (.cells #[.int .i64 num, .string (R.str pth), .slice lam accm.length lcm, .slice ta tl.length tc, .string (R.str rep), .slice las accs.length lcs, .slice lad accd.length lcd] 213)) := keep_block UB_r.out GLd1.out (by simp; omega)
              have HO_Ld1 : Hid _ := own_kept HO_r.out GLd1.out (by omega)
              have HM_Ld1 : Hid _ := own_kept HM_r.out GLd1.out (by omega)
              have HT_Ld1 : Hid _ := own_kept HT_r.out GLd1.out (by omega)
              have HS_Ld1 : Hid _ := own_kept HS_r.out GLd1.out (by omega)
              clear hgLd1 ggLd1
              rw [show (⟨#[100, 114, 111, 112]⟩ : ByteArray).data.toList = R.wDrop from rfl]
              cases hgo : P.sees pd R.wDrop
              · rw [hgo] at HL1
                simp only [Bool.false_eq_true, if_false] at HL1
                have HFd : Hid (Qd = (accd, pd)) := HL1.symm
                clear HL1 HL
                rw [HFd.out] at HP5
                simp only at HP5
                go_wp2_with fail
                refine (pro_take JLd1.out _).mono ?_
                rintro e wEd1 ⟨rfl, IEd1, hgEd1⟩
                have JEd1 : Hid _ := IEd1
                have bEd1 : rb < wEd1.heap.size := block_lt JEd1.out.rd
                have sEd1 : wLd1.heap.size + 0 ≤ wEd1.heap.size := by have h := hgEd1.size; simpa using h
                have GEd1 : Hid (wLd1.grownBy wEd1 (some rb)) := hgEd1
                have CEd1 : Hid (w.grownBy wEd1 (some rb)) := grown_trans CLd1.out GEd1.out
                have zEd1 : w.heap.size ≤ wEd1.heap.size := CEd1.out.size
                have RB_Ed1 : Hid (wEd1.heap[w.heap.size]? = some (.cells #[.int .i64 0, .string ⟨#[]⟩, .slice none 0 0, .slice none 0 0, .string ⟨#[]⟩, .slice none 0 0, .slice none 0 0] 213)) := keep_block RB_Ld1.out GEd1.out (by simp; omega)
                have UB_Ed1 : Hid (wEd1.heap[w3.heap.size]? = some (.cells #[.int .i64 num, .string (R.str pth), .slice lam accm.length lcm, .slice ta tl.length tc, .string (R.str rep), .slice las accs.length lcs, .slice lad accd.length lcd] 213)) := keep_block UB_Ld1.out GEd1.out (by simp; omega)
                have HO_Ed1 : Hid _ := own_kept HO_Ld1.out GEd1.out (by omega)
                have HM_Ed1 : Hid _ := own_kept HM_Ld1.out GEd1.out (by omega)
                have HT_Ed1 : Hid _ := own_kept HT_Ld1.out GEd1.out (by omega)
                have HS_Ed1 : Hid _ := own_kept HS_Ld1.out GEd1.out (by omega)
                clear hgEd1 IEd1
                rw [show (⟨#[125]⟩ : ByteArray).data.toList = [125] from rfl] at JEd1
                have qxl : w3.heap.size < wEd1.heap.size := block_lt UB_Ed1.out
                have qx0 : wEd1.cell? ⟨w3.heap.size, 0, none⟩ = some (.int .i64 num) := cell_of_block UB_Ed1.out
                have qx1 : wEd1.cell? ⟨w3.heap.size, 1, none⟩ = some (.string (R.str pth)) := cell_of_block UB_Ed1.out
                have qx2 : wEd1.cell? ⟨w3.heap.size, 2, none⟩ = some (.slice lam accm.length lcm) := cell_of_block UB_Ed1.out
                have qx3 : wEd1.cell? ⟨w3.heap.size, 3, none⟩ = some (.slice ta tl.length tc) := cell_of_block UB_Ed1.out
                have qx4 : wEd1.cell? ⟨w3.heap.size, 4, none⟩ = some (.string (R.str rep)) := cell_of_block UB_Ed1.out
                have qx5 : wEd1.cell? ⟨w3.heap.size, 5, none⟩ = some (.slice las accs.length lcs) := cell_of_block UB_Ed1.out
                have qx6 : wEd1.cell? ⟨w3.heap.size, 6, none⟩ = some (.slice lad accd.length lcd) := cell_of_block UB_Ed1.out
                have qyl : w.heap.size < wEd1.heap.size := block_lt RB_Ed1.out
                have qy0 : wEd1.cell? ⟨w.heap.size, 0, none⟩ = some (.int .i64 0) := cell_of_block RB_Ed1.out
                have qyf0 : wEd1.frozen? ⟨w.heap.size, 0, none⟩ = false := frozen_of_block RB_Ed1.out
                have qy1 : wEd1.cell? ⟨w.heap.size, 1, none⟩ = some (.string ⟨#[]⟩) := cell_of_block RB_Ed1.out
                have qyf1 : wEd1.frozen? ⟨w.heap.size, 1, none⟩ = false := frozen_of_block RB_Ed1.out
                have qy2 : wEd1.cell? ⟨w.heap.size, 2, none⟩ = some (.slice none 0 0) := cell_of_block RB_Ed1.out
                have qyf2 : wEd1.frozen? ⟨w.heap.size, 2, none⟩ = false := frozen_of_block RB_Ed1.out
                have qy3 : wEd1.cell? ⟨w.heap.size, 3, none⟩ = some (.slice none 0 0) := cell_of_block RB_Ed1.out
                have qyf3 : wEd1.frozen? ⟨w.heap.size, 3, none⟩ = false := frozen_of_block RB_Ed1.out
                have qy4 : wEd1.cell? ⟨w.heap.size, 4, none⟩ = some (.string ⟨#[]⟩) := cell_of_block RB_Ed1.out
                have qyf4 : wEd1.frozen? ⟨w.heap.size, 4, none⟩ = false := frozen_of_block RB_Ed1.out
                have qy5 : wEd1.cell? ⟨w.heap.size, 5, none⟩ = some (.slice none 0 0) := cell_of_block RB_Ed1.out
                have qyf5 : wEd1.frozen? ⟨w.heap.size, 5, none⟩ = false := frozen_of_block RB_Ed1.out
                have qy6 : wEd1.cell? ⟨w.heap.size, 6, none⟩ = some (.slice none 0 0) := cell_of_block RB_Ed1.out
                have qyf6 : wEd1.frozen? ⟨w.heap.size, 6, none⟩ = false := frozen_of_block RB_Ed1.out
                go_wp2
                have hs7 := grown_trans (grown_trans (grown_trans (grown_trans (grown_trans (grown_trans (grown_setCell wEd1 w.heap.size 0 (.int .i64 num)) (grown_setCell _ w.heap.size 1 (.string (R.str pth)))) (grown_setCell _ w.heap.size 2 (.slice lam accm.length lcm))) (grown_setCell _ w.heap.size 3 (.slice ta tl.length tc))) (grown_setCell _ w.heap.size 4 (.string (R.str rep)))) (grown_setCell _ w.heap.size 5 (.slice las accs.length lcs))) (grown_setCell _ w.heap.size 6 (.slice lad accd.length lcd))
                refine bodyPost_ret (v := .agg #[.int .i64 num, .string (R.str pth), .slice lam accm.length lcm, .slice ta tl.length tc, .string (R.str rep), .slice las accs.length lcs, .slice lad accd.length lcd]) (by simp [results, Tryz.results208, go_sem, qy0, qy1, qy2, qy3, qy4, qy5, qy6]) rfl ⟨[.int .i64 num, .string (R.str pth), .slice lam accm.length lcm, .slice ta tl.length tc, .string (R.str rep), .slice las accs.length lcs, .slice lad accd.length lcd], rfl, ?_, grown_new CEd1.out hs7 (Nat.le_refl _), ?_⟩
                · rw [HP5.out]; exact JEd1.out.other hs7 (by omega)
                · rw [HP5.out]
                  refine ⟨_, _, _, _, rfl, ?_, ?_, ?_, ?_⟩
                  · exact own_kept_box (row_base HM_Ed1.out (Nat.zero_le _)) hs7 (fun k hk => box_apart RB_Ed1.out HM_Ed1.out (by decide) k hk)
                  · exact own_kept_box (row_base HT_Ed1.out (Nat.zero_le _)) hs7 (fun k hk => box_apart RB_Ed1.out HT_Ed1.out (by decide) k hk)
                  · exact own_kept_box (row_base HS_Ed1.out (Nat.zero_le _)) hs7 (fun k hk => box_apart RB_Ed1.out HS_Ed1.out (by decide) k hk)
                  · exact own_kept_box (row_base HO_Ed1.out (Nat.zero_le _)) hs7 (fun k hk => box_apart RB_Ed1.out HO_Ed1.out (by decide) k hk)
              · rw [hgo] at HL1
                simp only [if_true] at HL1
                have hat := P.at_drop s.data.toList pd accd.length (accs.map Prod.fst ++ accd) hgo
                have HL2 : Hid _ := HL1
                clear HL1 HL
                have qgl : w3.heap.size < wLd1.heap.size := block_lt UB_Ld1.out
                have qg0 : wLd1.cell? ⟨w3.heap.size, 0, none⟩ = some (.int .i64 num) := cell_of_block UB_Ld1.out
                have qg1 : wLd1.cell? ⟨w3.heap.size, 1, none⟩ = some (.string (R.str pth)) := cell_of_block UB_Ld1.out
                have qg2 : wLd1.cell? ⟨w3.heap.size, 2, none⟩ = some (.slice lam accm.length lcm) := cell_of_block UB_Ld1.out
                have qg3 : wLd1.cell? ⟨w3.heap.size, 3, none⟩ = some (.slice ta tl.length tc) := cell_of_block UB_Ld1.out
                have qg4 : wLd1.cell? ⟨w3.heap.size, 4, none⟩ = some (.string (R.str rep)) := cell_of_block UB_Ld1.out
                have qg5 : wLd1.cell? ⟨w3.heap.size, 5, none⟩ = some (.slice las accs.length lcs) := cell_of_block UB_Ld1.out
                have qg6 : wLd1.cell? ⟨w3.heap.size, 6, none⟩ = some (.slice lad accd.length lcd) := cell_of_block UB_Ld1.out
                have HC : Hid (∀ w', wLd1.grownBy w' none → Calls Tryz.prog 275 #[.pointer (some ⟨rb, 0, none⟩), .agg #[.int .i64 num, .string (R.str pth), .slice lam accm.length lcm, .slice ta tl.length tc, .string (R.str rep), .slice las accs.length lcs, .slice lad accd.length lcd]] w' fun e w'' => e = .returned (.string (R.str (P.dropS s.data.toList pd accd.length (accs.map Prod.fst ++ accd)).1)) ∧ PInv w'' rb s (P.dropS s.data.toList pd accd.length (accs.map Prod.fst ++ accd)).2 ∧ w'.grownBy w'' (some rb)) := fun w' hg => pro_drop (JLd1.out.keep hg) _ _ _ _ _ _ _ accs accd (row_base (own_away HS_Ld1.out hg (fun _ _ => by simp)) (Nat.zero_le _)) (row_base (own_away HO_Ld1.out hg (fun _ _ => by simp)) (Nat.zero_le _)) HNA.out (by omega)
                generalize P.dropS s.data.toList pd accd.length (accs.map Prod.fst ++ accd) = qs at *
                obtain ⟨nw, p2⟩ := qs
                simp only at HL2 hat HC
                have H1D : Hid (∀ u ∈ ([.string (R.str nw)] : List Value), u.oneCell' = true) := by
                  intro u hu
                  simp only [List.mem_cons, List.mem_nil_iff, or_false] at hu
                  subst hu; rfl
                have HLD : Hid (accd.length + 1 ≤ maxLen) := by show _ ≤ _; unfold maxLen; omega
                go_wp2
                go_region_law (first | (refine step_append_lies _ rfl (.tmp 54) (.tmp 58) 22 rfl w.heap.size 9 id _ 1 16 Tryz.underlying22 di dz0 dz1 dz2 rfl (by decide) _ _ _ (by simp [Act.eval]) (World.ownsRow.alloc HO_N.out _) ⟨wN.heap.size, 0, none⟩ 1 1 [.string (R.str nw)] (by simp [Act.eval]) rfl HND.out H1D.out (by decide) HLD.out (by omega) HBD.out (wN.heap.size + 1) HZD.out ?_; intro g9 cap9 w9 hown9 hgrow9 hat9 hlt9; have far9 : ∀ k, (Value.slice lad accd.length lcd).ownBlock = some k → w.heap.size ≤ k := fun k hk => (World.ownsRow.lt HO_N.out k hk).1; have J9 : Hid (PInv w9 rb s p2) := (JN.out.keep (World.grownBy_alloc _ _ _)).away hgrow9 (fun k hk => by { have h1 := far9 k hk; omega }); have C9 : Hid (w.grownBy w9 (some rb)) := grown_far (grown_trans CN.out (World.grownBy_alloc _ _ _)) hgrow9 far9; have RB_9 : Hid (w9.heap[w.heap.size]? = some (.cells #[.int .i64 0, .string ⟨#[]⟩, .slice none 0 0, .slice none 0 0, .string ⟨#[]⟩, .slice none 0 0, .slice none 0 0] 213)) := keep_away (keep_block RB_N.out (World.grownBy_alloc _ _ none) (by simp)) hgrow9 (fun k hk => box_apart RB_N.out HO_N.out (by decide) k hk); have UB_9 : Hid (w9.heap[w3.heap.size]? = some (.cells #[.int .i64 num, .string (R.str pth), .slice lam accm.length lcm, .slice ta tl.length tc, .string (R.str rep), .slice las accs.length lcs, .slice lad accd.length lcd] 213)) := keep_away (keep_block UB_N.out (World.grownBy_alloc _ _ none) (by simp)) hgrow9 (fun k hk => box_apart UB_N.out HO_N.out (by decide) k hk); have HO_9 : Hid (w9.ownsRow w.heap.size 9 1 (.slice (some ⟨g9, 0, none⟩) (accd.length + 1) cap9) (accd ++ [nw]).length (R.strCells (accd ++ [nw]))) := by { show World.ownsRow _ _ _ _ _ _ _; rw [R.strCells_snoc, List.length_append]; exact hown9 }; have HM_9 : Hid _ := own_away (World.ownsRow.alloc HM_N.out _) hgrow9 (tag_apart HO_N.out HM_N.out (by decide)); have HT_9 : Hid _ := own_away (World.ownsRow.alloc HT_N.out _) hgrow9 (tag_apart HO_N.out HT_N.out (by decide)); have HS_9 : Hid _ := own_away (World.ownsRow.alloc HS_N.out _) hgrow9 (tag_apart HO_N.out HS_N.out (by decide)); have q9 : w9.cell? ⟨w3.heap.size, 6, none⟩ = some (.slice lad accd.length lcd) := cell_of_block UB_9.out; have q9f : w9.frozen? ⟨w3.heap.size, 6, none⟩ = false := frozen_of_block UB_9.out; clear hown9 hgrow9 far9) | (go_simp; go_at_call 275; refine (HC.out _ (grown_drew wLd1)).mono ?_; rintro e wN ⟨rfl, IN, hgN⟩; have GN : wLd1.grownBy wN (some rb) := grown_trans (grown_wide (grown_drew wLd1) _) hgN; have JN : Hid (PInv wN rb s p2) := IN; have CN : Hid (w.grownBy wN (some rb)) := grown_trans CLd1.out GN; have sN : wLd1.heap.size ≤ wN.heap.size := GN.size; have RB_N : Hid (wN.heap[w.heap.size]? = some (.cells #[.int .i64 0, .string ⟨#[]⟩, .slice none 0 0, .slice none 0 0, .string ⟨#[]⟩, .slice none 0 0, .slice none 0 0] 213)) := keep_block RB_Ld1.out GN (by simp; omega); have UB_N : Hid (wN.heap[w3.heap.size]? = some (.cells #[.int .i64 num, .string (R.str pth), .slice lam accm.length lcm, .slice ta tl.length tc, .string (R.str rep), .slice las accs.length lcs, .slice lad accd.length lcd] 213)) := keep_block UB_Ld1.out GN (by simp; omega); have HO_N : Hid _ := own_kept HO_Ld1.out GN (by omega); have HM_N : Hid _ := own_kept HM_Ld1.out GN (by omega); have HT_N : Hid _ := own_kept HT_Ld1.out GN (by omega); have HS_N : Hid _ := own_kept HS_Ld1.out GN (by omega); have qn0 : wN.cell? ⟨w3.heap.size, 0, none⟩ = some (.int .i64 num) := cell_of_block UB_N.out; have qn1 : wN.cell? ⟨w3.heap.size, 1, none⟩ = some (.string (R.str pth)) := cell_of_block UB_N.out; have qn2 : wN.cell? ⟨w3.heap.size, 2, none⟩ = some (.slice lam accm.length lcm) := cell_of_block UB_N.out; have qn3 : wN.cell? ⟨w3.heap.size, 3, none⟩ = some (.slice ta tl.length tc) := cell_of_block UB_N.out; have qn4 : wN.cell? ⟨w3.heap.size, 4, none⟩ = some (.string (R.str rep)) := cell_of_block UB_N.out; have qn5 : wN.cell? ⟨w3.heap.size, 5, none⟩ = some (.slice las accs.length lcs) := cell_of_block UB_N.out; have qn6 : wN.cell? ⟨w3.heap.size, 6, none⟩ = some (.slice lad accd.length lcd) := cell_of_block UB_N.out; have qnl : w3.heap.size < wN.heap.size := block_lt UB_N.out; have bN : rb < wN.heap.size := block_lt JN.out.rd; have HND : Hid (∀ j u, ([.string (R.str nw)] : List Value)[j]? = some u → (wN.alloc (.cells #[.string (R.str nw)] 9)).cell? ((⟨wN.heap.size, 0, none⟩ : Addr).add j) = some u) := cells_new wN #[_] _ _ rfl; have HBD : Hid (w.heap.size ≤ (wN.alloc (.cells #[.string (R.str nw)] 9)).heap.size) := by { show _ ≤ _; rw [show (wN.alloc (.cells #[.string (R.str nw)] 9)).heap.size = wN.heap.size + 1 from by simp]; omega }; have HZD : Hid ((wN.alloc (.cells #[.string (R.str nw)] 9)).heap.size = wN.heap.size + 1) := by { show _ = _; simp }; clear IN hgN GN))
                all_goals
                  have gS := grown_setCell w9 w3.heap.size 6 (.slice (some ⟨g9, 0, none⟩) (accd.length + 1) cap9)
                  have JS : Hid _ := J9.out.other gS (by omega)
                  have CS : Hid (w.grownBy (w9.setCell ⟨w3.heap.size, 6, none⟩ (.slice (some ⟨g9, 0, none⟩) (accd.length + 1) cap9)) (some rb)) := grown_new C9.out gS (by omega)
                  have RB_S : Hid ((w9.setCell ⟨w3.heap.size, 6, none⟩ (.slice (some ⟨g9, 0, none⟩) (accd.length + 1) cap9)).heap[w.heap.size]? = some (.cells #[.int .i64 0, .string ⟨#[]⟩, .slice none 0 0, .slice none 0 0, .string ⟨#[]⟩, .slice none 0 0, .slice none 0 0] 213)) := keep_block RB_9.out gS (by simp; omega)
                  have UB_S : Hid ((w9.setCell ⟨w3.heap.size, 6, none⟩ (.slice (some ⟨g9, 0, none⟩) (accd.length + 1) cap9)).heap[w3.heap.size]? = some (.cells #[.int .i64 num, .string (R.str pth), .slice lam accm.length lcm, .slice ta tl.length tc, .string (R.str rep), .slice las accs.length lcs, .slice (some ⟨g9, 0, none⟩) (accd.length + 1) cap9] 213)) := block_setCell UB_9.out _
                  have HO_S : Hid _ := own_kept_box HO_9.out gS (box_apart UB_9.out HO_9.out (by decide))
                  have HM_S : Hid _ := own_kept_box HM_9.out gS (box_apart UB_9.out HM_9.out (by decide))
                  have HT_S : Hid _ := own_kept_box HT_9.out gS (box_apart UB_9.out HT_9.out (by decide))
                  have HS_S : Hid _ := own_kept_box HS_9.out gS (box_apart UB_9.out HS_9.out (by decide))
                  have HMe : Hid (atOf (w9.setCell ⟨w3.heap.size, 6, none⟩ (.slice (some ⟨g9, 0, none⟩) (accd.length + 1) cap9)) rb = p2.tok.at_) := atOf_of JS.out
                  have HM0 : Hid (atOf wr rb = pd.tok.at_) := atOf_of IR.out
                  have hb2 := JS.out.bd
                  clear gS
                  go_wp2
                  go_roundw
                  case rel => exact ⟨n, accd ++ [nw], p2, _, by rw [List.length_append]; simp; omega, by omega, by omega, HL2, JS, CS, RB_S, UB_S, HO_S, HM_S, HT_S, HS_S⟩
                  case measure => rw [HMe.out, HM0.out]; omega
          · rw [hgo] at HL1
            simp only [if_true] at HL1
            have hat := P.at_set s.data.toList ps accs.length (accs.map Prod.fst) hgo
            have HL2 : Hid _ := HL1
            clear HL1 HL
            have qgl : w3.heap.size < wLs1.heap.size := block_lt UB_Ls1.out
            have qg0 : wLs1.cell? ⟨w3.heap.size, 0, none⟩ = some (.int .i64 num) := cell_of_block UB_Ls1.out
            have qg1 : wLs1.cell? ⟨w3.heap.size, 1, none⟩ = some (.string (R.str pth)) := cell_of_block UB_Ls1.out
            have qg2 : wLs1.cell? ⟨w3.heap.size, 2, none⟩ = some (.slice lam accm.length lcm) := cell_of_block UB_Ls1.out
            have qg3 : wLs1.cell? ⟨w3.heap.size, 3, none⟩ = some (.slice ta tl.length tc) := cell_of_block UB_Ls1.out
            have qg4 : wLs1.cell? ⟨w3.heap.size, 4, none⟩ = some (.string (R.str rep)) := cell_of_block UB_Ls1.out
            have qg5 : wLs1.cell? ⟨w3.heap.size, 5, none⟩ = some (.slice las accs.length lcs) := cell_of_block UB_Ls1.out
            have qg6 : wLs1.cell? ⟨w3.heap.size, 6, none⟩ = some (.slice none 0 0) := cell_of_block UB_Ls1.out
            have HC : Hid (∀ w', wLs1.grownBy w' none → Calls Tryz.prog 274 #[.pointer (some ⟨rb, 0, none⟩), .agg #[.int .i64 num, .string (R.str pth), .slice lam accm.length lcm, .slice ta tl.length tc, .string (R.str rep), .slice las accs.length lcs, .slice none 0 0]] w' fun e w'' => e = .returned (.agg #[.string (R.str (P.setS s.data.toList ps accs.length (accs.map Prod.fst)).1.1), .string (R.str (P.setS s.data.toList ps accs.length (accs.map Prod.fst)).1.2)]) ∧ PInv w'' rb s (P.setS s.data.toList ps accs.length (accs.map Prod.fst)).2 ∧ w'.grownBy w'' (some rb)) := fun w' hg => by
              have := pro_set (JLs1.out.keep hg) (.int .i64 num) (.string (R.str pth)) (.slice lam accm.length lcm) (.slice ta tl.length tc) (.string (R.str rep)) (.slice las accs.length lcs) (.slice none 0 0) accs [] (row_base (own_away HO_Ls1.out hg (fun _ _ => by simp)) (Nat.zero_le _)) (World.ownsRow_nil _ _ _ _) (by omega) (by simp)
              rw [List.append_nil] at this; exact this
            generalize P.setS s.data.toList ps accs.length (accs.map Prod.fst) = qs at *
            obtain ⟨nw, p2⟩ := qs
            simp only at HL2 hat HC
            have H1D : Hid (∀ u ∈ ([.string (R.str nw.1), .string (R.str nw.2)] : List Value), u.oneCell' = true) := by
              intro u hu
              simp only [List.mem_cons, List.mem_nil_iff, or_false] at hu
              rcases hu with rfl | rfl <;> rfl
            have HLD : Hid (accs.length + 1 ≤ maxLen) := by show _ ≤ _; unfold maxLen; omega
            go_wp2
            go_region_law (first | (refine step_append_lies _ rfl (.tmp 44) (.tmp 48) 211 rfl w.heap.size 280 is _ 2 32 Tryz.underlying211 si sz0 sz1 sz2 rfl (by decide) _ _ _ (by simp [Act.eval]) (World.ownsRow.alloc HO_N.out _) ⟨wN.heap.size, 0, none⟩ 1 1 [.string (R.str nw.1), .string (R.str nw.2)] (by simp [Act.eval]) rfl HND.out H1D.out (by decide) HLD.out (by omega) HBD.out (wN.heap.size + 1) HZD.out ?_; intro g9 cap9 w9 hown9 hgrow9 hat9 hlt9; have far9 : ∀ k, (Value.slice las accs.length lcs).ownBlock = some k → w.heap.size ≤ k := fun k hk => (World.ownsRow.lt HO_N.out k hk).1; have J9 : Hid (PInv w9 rb s p2) := (JN.out.keep (World.grownBy_alloc _ _ _)).away hgrow9 (fun k hk => by { have h1 := far9 k hk; omega }); have C9 : Hid (w.grownBy w9 (some rb)) := grown_far (grown_trans CN.out (World.grownBy_alloc _ _ _)) hgrow9 far9; have RB_9 : Hid (w9.heap[w.heap.size]? = some (.cells #[.int .i64 0, .string ⟨#[]⟩, .slice none 0 0, .slice none 0 0, .string ⟨#[]⟩, .slice none 0 0, .slice none 0 0] 213)) := keep_away (keep_block RB_N.out (World.grownBy_alloc _ _ none) (by simp)) hgrow9 (fun k hk => box_apart RB_N.out HO_N.out (by decide) k hk); have UB_9 : Hid (w9.heap[w3.heap.size]? = some (.cells #[.int .i64 num, .string (R.str pth), .slice lam accm.length lcm, .slice ta tl.length tc, .string (R.str rep), .slice las accs.length lcs, .slice none 0 0] 213)) := keep_away (keep_block UB_N.out (World.grownBy_alloc _ _ none) (by simp)) hgrow9 (fun k hk => box_apart UB_N.out HO_N.out (by decide) k hk); have HO_9 : Hid (w9.ownsRow w.heap.size 280 2 (.slice (some ⟨g9, 0, none⟩) (accs.length + 1) cap9) (accs ++ [nw]).length (R.fdCells (accs ++ [nw]))) := by { show World.ownsRow _ _ _ _ _ _ _; rw [R.fdCells_snoc, List.length_append]; exact hown9 }; have HM_9 : Hid _ := own_away (World.ownsRow.alloc HM_N.out _) hgrow9 (tag_apart HO_N.out HM_N.out (by decide)); have HT_9 : Hid _ := own_away (World.ownsRow.alloc HT_N.out _) hgrow9 (tag_apart HO_N.out HT_N.out (by decide)); have q9 : w9.cell? ⟨w3.heap.size, 5, none⟩ = some (.slice las accs.length lcs) := cell_of_block UB_9.out; have q9f : w9.frozen? ⟨w3.heap.size, 5, none⟩ = false := frozen_of_block UB_9.out; clear hown9 hgrow9 far9) | (go_simp; go_at_call 274; refine (HC.out _ (grown_drew wLs1)).mono ?_; rintro e wN ⟨rfl, IN, hgN⟩; have GN : wLs1.grownBy wN (some rb) := grown_trans (grown_wide (grown_drew wLs1) _) hgN; have JN : Hid (PInv wN rb s p2) := IN; have CN : Hid (w.grownBy wN (some rb)) := grown_trans CLs1.out GN; have sN : wLs1.heap.size ≤ wN.heap.size := GN.size; have RB_N : Hid (wN.heap[w.heap.size]? = some (.cells #[.int .i64 0, .string ⟨#[]⟩, .slice none 0 0, .slice none 0 0, .string ⟨#[]⟩, .slice none 0 0, .slice none 0 0] 213)) := keep_block RB_Ls1.out GN (by simp; omega); have UB_N : Hid (wN.heap[w3.heap.size]? = some (.cells #[.int .i64 num, .string (R.str pth), .slice lam accm.length lcm, .slice ta tl.length tc, .string (R.str rep), .slice las accs.length lcs, .slice none 0 0] 213)) := keep_block UB_Ls1.out GN (by simp; omega); have HO_N : Hid _ := own_kept HO_Ls1.out GN (by omega); have HM_N : Hid _ := own_kept HM_Ls1.out GN (by omega); have HT_N : Hid _ := own_kept HT_Ls1.out GN (by omega); have qn0 : wN.cell? ⟨w3.heap.size, 0, none⟩ = some (.int .i64 num) := cell_of_block UB_N.out; have qn1 : wN.cell? ⟨w3.heap.size, 1, none⟩ = some (.string (R.str pth)) := cell_of_block UB_N.out; have qn2 : wN.cell? ⟨w3.heap.size, 2, none⟩ = some (.slice lam accm.length lcm) := cell_of_block UB_N.out; have qn3 : wN.cell? ⟨w3.heap.size, 3, none⟩ = some (.slice ta tl.length tc) := cell_of_block UB_N.out; have qn4 : wN.cell? ⟨w3.heap.size, 4, none⟩ = some (.string (R.str rep)) := cell_of_block UB_N.out; have qn5 : wN.cell? ⟨w3.heap.size, 5, none⟩ = some (.slice las accs.length lcs) := cell_of_block UB_N.out; have qn6 : wN.cell? ⟨w3.heap.size, 6, none⟩ = some (.slice none 0 0) := cell_of_block UB_N.out; have qnl : w3.heap.size < wN.heap.size := block_lt UB_N.out; have bN : rb < wN.heap.size := block_lt JN.out.rd; have HND : Hid (∀ j u, ([.string (R.str nw.1), .string (R.str nw.2)] : List Value)[j]? = some u → (wN.alloc (.cells #[.string (R.str nw.1), .string (R.str nw.2)] 280)).cell? ((⟨wN.heap.size, 0, none⟩ : Addr).add j) = some u) := cells_new wN #[_, _] _ _ rfl; have HBD : Hid (w.heap.size ≤ (wN.alloc (.cells #[.string (R.str nw.1), .string (R.str nw.2)] 280)).heap.size) := by { show _ ≤ _; rw [show (wN.alloc (.cells #[.string (R.str nw.1), .string (R.str nw.2)] 280)).heap.size = wN.heap.size + 1 from by simp]; omega }; have HZD : Hid ((wN.alloc (.cells #[.string (R.str nw.1), .string (R.str nw.2)] 280)).heap.size = wN.heap.size + 1) := by { show _ = _; simp }; clear IN hgN GN))
            all_goals
              have gS := grown_setCell w9 w3.heap.size 5 (.slice (some ⟨g9, 0, none⟩) (accs.length + 1) cap9)
              have JS : Hid _ := J9.out.other gS (by omega)
              have CS : Hid (w.grownBy (w9.setCell ⟨w3.heap.size, 5, none⟩ (.slice (some ⟨g9, 0, none⟩) (accs.length + 1) cap9)) (some rb)) := grown_new C9.out gS (by omega)
              have RB_S : Hid ((w9.setCell ⟨w3.heap.size, 5, none⟩ (.slice (some ⟨g9, 0, none⟩) (accs.length + 1) cap9)).heap[w.heap.size]? = some (.cells #[.int .i64 0, .string ⟨#[]⟩, .slice none 0 0, .slice none 0 0, .string ⟨#[]⟩, .slice none 0 0, .slice none 0 0] 213)) := keep_block RB_9.out gS (by simp; omega)
              have UB_S : Hid ((w9.setCell ⟨w3.heap.size, 5, none⟩ (.slice (some ⟨g9, 0, none⟩) (accs.length + 1) cap9)).heap[w3.heap.size]? = some (.cells #[.int .i64 num, .string (R.str pth), .slice lam accm.length lcm, .slice ta tl.length tc, .string (R.str rep), .slice (some ⟨g9, 0, none⟩) (accs.length + 1) cap9, .slice none 0 0] 213)) := block_setCell UB_9.out _
              have HO_S : Hid _ := own_kept_box HO_9.out gS (box_apart UB_9.out HO_9.out (by decide))
              have HM_S : Hid _ := own_kept_box HM_9.out gS (box_apart UB_9.out HM_9.out (by decide))
              have HT_S : Hid _ := own_kept_box HT_9.out gS (box_apart UB_9.out HT_9.out (by decide))
              have HMe : Hid (atOf (w9.setCell ⟨w3.heap.size, 5, none⟩ (.slice (some ⟨g9, 0, none⟩) (accs.length + 1) cap9)) rb = p2.tok.at_) := atOf_of JS.out
              have HM0 : Hid (atOf wr rb = ps.tok.at_) := atOf_of IR.out
              have hb2 := JS.out.bd
              clear gS
              go_wp2
              go_roundw
              case rel => exact ⟨n, accs ++ [nw], p2, _, by rw [List.length_append]; simp; omega, by omega, by omega, HL2, JS, CS, RB_S, UB_S, HO_S, HM_S, HT_S⟩
              case measure => rw [HMe.out, HM0.out]; omega
    · rw [hgo] at HL1
      simp only [if_true] at HL1
      have hat := P.at_match s.data.toList pm accm.length hgo
      have HL2 : Hid _ := HL1
      clear HL1 HL
      have qgl : w3.heap.size < wLm1.heap.size := block_lt UB_Lm1.out
      have qg0 : wLm1.cell? ⟨w3.heap.size, 0, none⟩ = some (.int .i64 num) := cell_of_block UB_Lm1.out
      have qg1 : wLm1.cell? ⟨w3.heap.size, 1, none⟩ = some (.string (R.str pth)) := cell_of_block UB_Lm1.out
      have qg2 : wLm1.cell? ⟨w3.heap.size, 2, none⟩ = some (.slice lam accm.length lcm) := cell_of_block UB_Lm1.out
      have qg3 : wLm1.cell? ⟨w3.heap.size, 3, none⟩ = some (.slice none 0 0) := cell_of_block UB_Lm1.out
      have qg4 : wLm1.cell? ⟨w3.heap.size, 4, none⟩ = some (.string ⟨#[]⟩) := cell_of_block UB_Lm1.out
      have qg5 : wLm1.cell? ⟨w3.heap.size, 5, none⟩ = some (.slice none 0 0) := cell_of_block UB_Lm1.out
      have qg6 : wLm1.cell? ⟨w3.heap.size, 6, none⟩ = some (.slice none 0 0) := cell_of_block UB_Lm1.out
      have HC : Hid (∀ w', wLm1.grownBy w' none → Calls Tryz.prog 272 #[.pointer (some ⟨rb, 0, none⟩), .int .i64 accm.length] w' fun e w'' => e = .returned (.agg #[.string (R.str (P.matchS s.data.toList pm accm.length).1.name), .bool (P.matchS s.data.toList pm accm.length).1.ask, .string (R.str (P.matchS s.data.toList pm accm.length).1.val)]) ∧ PInv w'' rb s (P.matchS s.data.toList pm accm.length).2 ∧ w'.grownBy w'' (some rb)) := fun w' hg => pro_match (JLm1.out.keep hg) accm.length
      generalize P.matchS s.data.toList pm accm.length = qs at *
      obtain ⟨nw, p2⟩ := qs
      simp only at HL2 hat HC
      have H1D : Hid (∀ u ∈ ([.string (R.str nw.name), .bool nw.ask, .string (R.str nw.val)] : List Value), u.oneCell' = true) := by
        intro u hu
        simp only [List.mem_cons, List.mem_nil_iff, or_false] at hu
        rcases hu with rfl | rfl | rfl <;> rfl
      have HLD : Hid (accm.length + 1 ≤ maxLen) := by show _ ≤ _; unfold maxLen; omega
      go_wp2
      go_region_law (first | (refine step_append_lies _ rfl (.tmp 24) (.tmp 30) 209 rfl w.heap.size 276 im _ 3 40 Tryz.underlying209 mi mz0 mz1 mz2 rfl (by decide) _ _ _ (by simp [Act.eval]) (World.ownsRow.alloc HO_N.out _) ⟨wN.heap.size, 0, none⟩ 1 1 [.string (R.str nw.name), .bool nw.ask, .string (R.str nw.val)] (by simp [Act.eval]) rfl HND.out H1D.out (by decide) HLD.out (by omega) HBD.out (wN.heap.size + 1) HZD.out ?_; intro g9 cap9 w9 hown9 hgrow9 hat9 hlt9; have far9 : ∀ k, (Value.slice lam accm.length lcm).ownBlock = some k → w.heap.size ≤ k := fun k hk => (World.ownsRow.lt HO_N.out k hk).1; have J9 : Hid (PInv w9 rb s p2) := (JN.out.keep (World.grownBy_alloc _ _ _)).away hgrow9 (fun k hk => by { have h1 := far9 k hk; omega }); have C9 : Hid (w.grownBy w9 (some rb)) := grown_far (grown_trans CN.out (World.grownBy_alloc _ _ _)) hgrow9 far9; have RB_9 : Hid (w9.heap[w.heap.size]? = some (.cells #[.int .i64 0, .string ⟨#[]⟩, .slice none 0 0, .slice none 0 0, .string ⟨#[]⟩, .slice none 0 0, .slice none 0 0] 213)) := keep_away (keep_block RB_N.out (World.grownBy_alloc _ _ none) (by simp)) hgrow9 (fun k hk => box_apart RB_N.out HO_N.out (by decide) k hk); have UB_9 : Hid (w9.heap[w3.heap.size]? = some (.cells #[.int .i64 num, .string (R.str pth), .slice lam accm.length lcm, .slice none 0 0, .string ⟨#[]⟩, .slice none 0 0, .slice none 0 0] 213)) := keep_away (keep_block UB_N.out (World.grownBy_alloc _ _ none) (by simp)) hgrow9 (fun k hk => box_apart UB_N.out HO_N.out (by decide) k hk); have HO_9 : Hid (w9.ownsRow w.heap.size 276 3 (.slice (some ⟨g9, 0, none⟩) (accm.length + 1) cap9) (accm ++ [nw]).length (P.mtCells (accm ++ [nw]))) := by { show World.ownsRow _ _ _ _ _ _ _; rw [P.mtCells_snoc, List.length_append]; exact hown9 }; have q9 : w9.cell? ⟨w3.heap.size, 2, none⟩ = some (.slice lam accm.length lcm) := cell_of_block UB_9.out; have q9f : w9.frozen? ⟨w3.heap.size, 2, none⟩ = false := frozen_of_block UB_9.out; clear hown9 hgrow9 far9) | (go_simp; go_at_call 272; refine (HC.out _ (grown_drew wLm1)).mono ?_; rintro e wN ⟨rfl, IN, hgN⟩; have GN : wLm1.grownBy wN (some rb) := grown_trans (grown_wide (grown_drew wLm1) _) hgN; have JN : Hid (PInv wN rb s p2) := IN; have CN : Hid (w.grownBy wN (some rb)) := grown_trans CLm1.out GN; have sN : wLm1.heap.size ≤ wN.heap.size := GN.size; have RB_N : Hid (wN.heap[w.heap.size]? = some (.cells #[.int .i64 0, .string ⟨#[]⟩, .slice none 0 0, .slice none 0 0, .string ⟨#[]⟩, .slice none 0 0, .slice none 0 0] 213)) := keep_block RB_Lm1.out GN (by simp; omega); have UB_N : Hid (wN.heap[w3.heap.size]? = some (.cells #[.int .i64 num, .string (R.str pth), .slice lam accm.length lcm, .slice none 0 0, .string ⟨#[]⟩, .slice none 0 0, .slice none 0 0] 213)) := keep_block UB_Lm1.out GN (by simp; omega); have HO_N : Hid _ := own_kept HO_Lm1.out GN (by omega); have qn0 : wN.cell? ⟨w3.heap.size, 0, none⟩ = some (.int .i64 num) := cell_of_block UB_N.out; have qn1 : wN.cell? ⟨w3.heap.size, 1, none⟩ = some (.string (R.str pth)) := cell_of_block UB_N.out; have qn2 : wN.cell? ⟨w3.heap.size, 2, none⟩ = some (.slice lam accm.length lcm) := cell_of_block UB_N.out; have qn3 : wN.cell? ⟨w3.heap.size, 3, none⟩ = some (.slice none 0 0) := cell_of_block UB_N.out; have qn4 : wN.cell? ⟨w3.heap.size, 4, none⟩ = some (.string ⟨#[]⟩) := cell_of_block UB_N.out; have qn5 : wN.cell? ⟨w3.heap.size, 5, none⟩ = some (.slice none 0 0) := cell_of_block UB_N.out; have qn6 : wN.cell? ⟨w3.heap.size, 6, none⟩ = some (.slice none 0 0) := cell_of_block UB_N.out; have qnl : w3.heap.size < wN.heap.size := block_lt UB_N.out; have bN : rb < wN.heap.size := block_lt JN.out.rd; have HND : Hid (∀ j u, ([.string (R.str nw.name), .bool nw.ask, .string (R.str nw.val)] : List Value)[j]? = some u → (wN.alloc (.cells #[.string (R.str nw.name), .bool nw.ask, .string (R.str nw.val)] 276)).cell? ((⟨wN.heap.size, 0, none⟩ : Addr).add j) = some u) := cells_new wN #[_, _, _] _ _ rfl; have HBD : Hid (w.heap.size ≤ (wN.alloc (.cells #[.string (R.str nw.name), .bool nw.ask, .string (R.str nw.val)] 276)).heap.size) := by { show _ ≤ _; rw [show (wN.alloc (.cells #[.string (R.str nw.name), .bool nw.ask, .string (R.str nw.val)] 276)).heap.size = wN.heap.size + 1 from by simp]; omega }; have HZD : Hid ((wN.alloc (.cells #[.string (R.str nw.name), .bool nw.ask, .string (R.str nw.val)] 276)).heap.size = wN.heap.size + 1) := by { show _ = _; simp }; clear IN hgN GN))
      all_goals
        have gS := grown_setCell w9 w3.heap.size 2 (.slice (some ⟨g9, 0, none⟩) (accm.length + 1) cap9)
        have JS : Hid _ := J9.out.other gS (by omega)
        have CS : Hid (w.grownBy (w9.setCell ⟨w3.heap.size, 2, none⟩ (.slice (some ⟨g9, 0, none⟩) (accm.length + 1) cap9)) (some rb)) := grown_new C9.out gS (by omega)
        have RB_S : Hid ((w9.setCell ⟨w3.heap.size, 2, none⟩ (.slice (some ⟨g9, 0, none⟩) (accm.length + 1) cap9)).heap[w.heap.size]? = some (.cells #[.int .i64 0, .string ⟨#[]⟩, .slice none 0 0, .slice none 0 0, .string ⟨#[]⟩, .slice none 0 0, .slice none 0 0] 213)) := keep_block RB_9.out gS (by simp; omega)
        have UB_S : Hid ((w9.setCell ⟨w3.heap.size, 2, none⟩ (.slice (some ⟨g9, 0, none⟩) (accm.length + 1) cap9)).heap[w3.heap.size]? = some (.cells #[.int .i64 num, .string (R.str pth), .slice (some ⟨g9, 0, none⟩) (accm.length + 1) cap9, .slice none 0 0, .string ⟨#[]⟩, .slice none 0 0, .slice none 0 0] 213)) := block_setCell UB_9.out _
        have HO_S : Hid _ := own_kept_box HO_9.out gS (box_apart UB_9.out HO_9.out (by decide))
        have HMe : Hid (atOf (w9.setCell ⟨w3.heap.size, 2, none⟩ (.slice (some ⟨g9, 0, none⟩) (accm.length + 1) cap9)) rb = p2.tok.at_) := atOf_of JS.out
        have HM0 : Hid (atOf wr rb = pm.tok.at_) := atOf_of IR.out
        have hb2 := JS.out.bd
        clear gS
        go_wp2
        go_roundw
        case rel => exact ⟨n, accm ++ [nw], p2, _, by rw [List.length_append]; simp; omega, by omega, by omega, HL2, JS, CS, RB_S, UB_S, HO_S⟩
        case measure => rw [HMe.out, HM0.out]; omega

end Go.Proofs.YtfocdefchbnkpaaGreatDoor
