/- A host, as the program's reader reads it. -/
import Derived.Test.YtfocdefchbnkpaaGreatDoorProQ
namespace Go.Proofs.YtfocdefchbnkpaaGreatDoor
open Go.RowKit

theorem info_prl : (Tryz.prog.info? 213).map (fun i => (i.zero, i.size, i.bytes)) = some (some (.agg #[.int .i64 0, .string ⟨#[]⟩, .slice none 0 0, .slice none 0 0, .string ⟨#[]⟩, .slice none 0 0, .slice none 0 0]), 7, 136) := by kernel_rfl
theorem prow_len {w : World} {B : Nat} {v : Value} {rs : List P.Rl} (h : PRulesRow w B v rs) : ∃ a c, v = .slice a rs.length c := by obtain ⟨css, h1, _⟩ := h; exact len_row h1
theorem prow_nil (w : World) (B : Nat) : PRulesRow w B (.slice none 0 0) [] := ⟨[], World.ownsRow_nil _ _ _ _, .nil⟩

set_option maxRecDepth 100000 in
set_option maxHeartbeats 8000000 in
theorem pro_host {w : World} {rb : Nat} {s : ByteArray} {st : P.St} (h : PInv w rb s st) (B : Nat) (v : Value) (hs : List P.Hst) (hR : PHostsRow w B v hs) (hn : hs.length ≤ 2000000000000) (hG : Glob w) (hrb : rb ≠ 0) :
    Calls Tryz.prog 148 #[.pointer (some ⟨rb, 0, none⟩), v] w fun e w' => ∃ vR, e = .returned (.agg #[.string (R.str (P.hostS s.data.toList st (hs.map P.Hst.name)).1.name), vR]) ∧ PInv w' rb s (P.hostS s.data.toList st (hs.map P.Hst.name)).2 ∧ w.grownBy w' (some rb) ∧ PRulesRow w' w.heap.size vR (P.hostS s.data.toList st (hs.map P.Hst.name)).1.rules := by
  obtain ⟨i0, hi, hz0, hz1, hz2⟩ := info_parts info_prl
  have HP : Hid (P.hostS s.data.toList st (hs.map P.Hst.name) = P.hsB s.data.toList (P.hsA s.data.toList st (hs.map P.Hst.name))) := rfl
  have HA : Hid (P.hsA s.data.toList st (hs.map P.Hst.name) = P.hostNameS s.data.toList (P.takeS s.data.toList (P.oneMore st hs.length 4) R.wHost) (hs.map P.Hst.name)) := by show _ = _; unfold P.hsA; rw [List.length_map]
  have H0 : Hid _ := h
  have brb : rb < w.heap.size := block_lt h.rd
  have hlen := h.len
  have HR : Hid (PHostsRow w B v hs) := hR
  have HN : Hid _ := hn
  have HG : Hid (Glob w) := hG
  obtain ⟨va, vc, rfl⟩ : ∃ a c, v = .slice a hs.length c := by obtain ⟨css, h1, _⟩ := hR; exact len_row h1
  clear h hR hn hG
  generalize P.hostS s.data.toList st (hs.map P.Hst.name) = res at *
  go_enter Tryz.func148, Tryz.ntmps148
  have C0 : Hid (w.grownBy w (some rb)) := grown_refl _ _
  go_wp2_with fail
  refine (pro_oneMore (H0.out.keep (World.grownBy_alloc _ _ _)) _ _).mono ?_
  rintro e w1 ⟨rfl, I1, hg1⟩
  have J1 : Hid _ := I1
  have b1 : rb < w1.heap.size := block_lt J1.out.rd
  have s1 : w.heap.size + 1 ≤ w1.heap.size := by have h := hg1.size; simpa using h
  have G1 : Hid (w.grownBy w1 (some rb)) := (grown_trans (World.grownBy_alloc _ _ _) hg1)
  have C1 : Hid (w.grownBy w1 (some rb)) := grown_trans C0.out G1.out
  have z1 : w.heap.size ≤ w1.heap.size := C1.out.size
  have RB_1 : Hid (w1.heap[w.heap.size]? = some (.cells #[.string ⟨#[]⟩, .slice none 0 0] 146)) := new_block hg1 (by simp; omega)
  clear hg1 I1
  go_wp2_with fail
  refine (pro_take J1.out _).mono ?_
  rintro e w2 ⟨rfl, I2, hg2⟩
  have J2 : Hid _ := I2
  have b2 : rb < w2.heap.size := block_lt J2.out.rd
  have s2 : w1.heap.size + 0 ≤ w2.heap.size := by have h := hg2.size; simpa using h
  have G2 : Hid (w1.grownBy w2 (some rb)) := hg2
  have C2 : Hid (w.grownBy w2 (some rb)) := grown_trans C1.out G2.out
  have z2 : w.heap.size ≤ w2.heap.size := C2.out.size
  have RB_2 : Hid (w2.heap[w.heap.size]? = some (.cells #[.string ⟨#[]⟩, .slice none 0 0] 146)) := keep_block RB_1.out G2.out (by simp; omega)
  clear hg2 I2
  rw [show (⟨#[104, 111, 115, 116]⟩ : ByteArray).data.toList = R.wHost from rfl] at J2
  go_wp2_with fail
  refine (pro_hostName J2.out B _ hs (HR.out.keep C2.out (H0.out.safe (by decide))) HN.out (HG.out.keep C2.out (by simpa using hrb)) hrb).mono ?_
  rintro e w3 ⟨rfl, I3, hg3⟩
  have J3 : Hid _ := I3
  have b3 : rb < w3.heap.size := block_lt J3.out.rd
  have s3 : w2.heap.size + 0 ≤ w3.heap.size := by have h := hg3.size; simpa using h
  have G3 : Hid (w2.grownBy w3 (some rb)) := hg3
  have C3 : Hid (w.grownBy w3 (some rb)) := grown_trans C2.out G3.out
  have z3 : w.heap.size ≤ w3.heap.size := C3.out.size
  have RB_3 : Hid (w3.heap[w.heap.size]? = some (.cells #[.string ⟨#[]⟩, .slice none 0 0] 146)) := keep_block RB_2.out G3.out (by simp; omega)
  clear hg3 I3
  rw [← HA.out] at J3
  rw [← HA.out]
  clear HA
  generalize P.hsA s.data.toList st (hs.map P.Hst.name) = qa at *
  obtain ⟨nm, sA⟩ := qa
  simp only at J3 HP ⊢
  go_wp2_with fail
  refine (pro_take (J3.out.keep (World.grownBy_alloc _ _ _)) _).mono ?_
  rintro e w4 ⟨rfl, I4, hg4⟩
  have J4 : Hid _ := I4
  have b4 : rb < w4.heap.size := block_lt J4.out.rd
  have s4 : w3.heap.size + 1 ≤ w4.heap.size := by have h := hg4.size; simpa using h
  have G4 : Hid (w3.grownBy w4 (some rb)) := (grown_trans (World.grownBy_alloc _ _ _) hg4)
  have C4 : Hid (w.grownBy w4 (some rb)) := grown_trans C3.out G4.out
  have z4 : w.heap.size ≤ w4.heap.size := C4.out.size
  have RB_4 : Hid (w4.heap[w.heap.size]? = some (.cells #[.string ⟨#[]⟩, .slice none 0 0] 146)) := keep_block RB_3.out G4.out (by simp; omega)
  have UB_4 : Hid (w4.heap[w3.heap.size]? = some (.cells #[.string (R.str nm), .slice none 0 0] 146)) := new_block hg4 (by simp; omega)
  clear hg4 I4
  have JB : Hid (PInv w4 rb s (P.takeS s.data.toList sA [123])) := J4
  have HP2 : Hid (res = (⟨nm, (P.rlLoop s.data.toList (s.data.toList.length + 1) (P.takeS s.data.toList sA [123]) []).1⟩, P.takeS s.data.toList (P.rlLoop s.data.toList (s.data.toList.length + 1) (P.takeS s.data.toList sA [123]) []).2 [125])) := HP.out
  clear HP
  generalize P.takeS s.data.toList sA [123] = sB at *
  generalize hQ : P.rlLoop s.data.toList (s.data.toList.length + 1) sB [] = Q at *
  have HQ : Hid _ := hQ
  clear hQ
  have b0 := JB.out.bd
  go_wp2_with fail
  go_loopw [] (fun wr => ∃ (n : Nat) (acc : List P.Rl) (p : P.St) (vL : Value), acc.length ≤ p.tok.at_ ∧ p.tok.at_ ≤ s.size ∧ s.size < n + p.tok.at_ ∧ Hid (P.rlLoop s.data.toList n p acc = Q) ∧ Hid (PInv wr rb s p) ∧ Hid (w.grownBy wr (some rb)) ∧ Hid (wr.heap[w.heap.size]? = some (.cells #[.string ⟨#[]⟩, .slice none 0 0] 146)) ∧ Hid (wr.heap[w3.heap.size]? = some (.cells #[.string (R.str nm), vL] 146)) ∧ Hid (PRulesRow wr w.heap.size vL acc)) (fun wr => s.size + 1 - atOf wr rb)
  case atStart => exact ⟨s.data.toList.length + 1, [], sB, _, Nat.zero_le _, by omega, by rw [R.size_eq]; omega, HQ.out, JB, C4, RB_4.out, UB_4.out, prow_nil _ _⟩
  case round =>
    obtain ⟨n, acc, p, vL, hal, hpl, hnn, HL, IR, CR, RB_r, UB_r, HO⟩ := hrel
    have bwr : rb < wr.heap.size := block_lt IR.out.rd
    have zwr : w.heap.size ≤ wr.heap.size := CR.out.size
    have hzu : w3.heap.size < wr.heap.size := block_lt UB_r.out
    obtain ⟨n, rfl⟩ : ∃ m, n = m + 1 := ⟨n - 1, by omega⟩
    have HL1 := HL.out
    rw [P.rlLoop] at HL1
    obtain ⟨la, lc, rfl⟩ := prow_len HO.out
    go_wp2_with fail
    refine (pro_sees IR.out _).mono ?_
    rintro e wL1 ⟨rfl, ggL1⟩
    have hgL1 := grown_wide ggL1 (some rb)
    have JL1 : Hid _ := (IR.out).keep ggL1
    have bL1 : rb < wL1.heap.size := block_lt JL1.out.rd
    have sL1 : wr.heap.size + 0 ≤ wL1.heap.size := by have h := hgL1.size; simpa using h
    have GL1 : Hid (wr.grownBy wL1 (some rb)) := hgL1
    have CL1 : Hid (w.grownBy wL1 (some rb)) := grown_trans CR.out GL1.out
    have zL1 : w.heap.size ≤ wL1.heap.size := CL1.out.size
    have RB_L1 : Hid (wL1.heap[w.heap.size]? = some (.cells #[.string ⟨#[]⟩, .slice none 0 0] 146)) := keep_block RB_r.out GL1.out (by simp; omega)
    have UB_L1 : Hid (wL1.heap[w3.heap.size]? = some (.cells #[.string (R.str nm), .slice la acc.length lc] 146)) := keep_block UB_r.out GL1.out (by simp; omega)
    clear hgL1 ggL1
    have HO1 : Hid (PRulesRow wL1 w.heap.size (.slice la acc.length lc) acc) := HO.out.keep GL1.out (IR.out.safe (by decide))
    rw [show (⟨#[114, 117, 108, 101]⟩ : ByteArray).data.toList = R.wRule from rfl]
    cases hgo : P.sees p R.wRule
    · rw [hgo] at HL1
      simp only [Bool.false_eq_true, if_false] at HL1
      have HF : Hid (Q = (acc, p)) := HL1.symm
      clear HL1 HL
      rw [HF.out] at HP2
      simp only at HP2
      go_wp2_with fail
      refine (pro_take JL1.out _).mono ?_
      rintro e wE1 ⟨rfl, IE1, hgE1⟩
      have JE1 : Hid _ := IE1
      have bE1 : rb < wE1.heap.size := block_lt JE1.out.rd
      have sE1 : wL1.heap.size + 0 ≤ wE1.heap.size := by have h := hgE1.size; simpa using h
      have GE1 : Hid (wL1.grownBy wE1 (some rb)) := hgE1
      have CE1 : Hid (w.grownBy wE1 (some rb)) := grown_trans CL1.out GE1.out
      have zE1 : w.heap.size ≤ wE1.heap.size := CE1.out.size
      have RB_E1 : Hid (wE1.heap[w.heap.size]? = some (.cells #[.string ⟨#[]⟩, .slice none 0 0] 146)) := keep_block RB_L1.out GE1.out (by simp; omega)
      have UB_E1 : Hid (wE1.heap[w3.heap.size]? = some (.cells #[.string (R.str nm), .slice la acc.length lc] 146)) := keep_block UB_L1.out GE1.out (by simp; omega)
      clear hgE1 IE1
      rw [show (⟨#[125]⟩ : ByteArray).data.toList = [125] from rfl] at JE1
      have HO2 : Hid (PRulesRow wE1 w.heap.size (.slice la acc.length lc) acc) := HO1.out.keep GE1.out (JL1.out.safe (by decide))
      have qxl : w3.heap.size < wE1.heap.size := block_lt UB_E1.out
      have qx0 : wE1.cell? ⟨w3.heap.size, 0, none⟩ = some (.string (R.str nm)) := cell_of_block UB_E1.out
      have qx1 : wE1.cell? ⟨w3.heap.size, 1, none⟩ = some (.slice la acc.length lc) := cell_of_block UB_E1.out
      have qyl : w.heap.size < wE1.heap.size := block_lt RB_E1.out
      have qy0 : wE1.cell? ⟨w.heap.size, 0, none⟩ = some (.string ⟨#[]⟩) := cell_of_block RB_E1.out
      have qyf0 : wE1.frozen? ⟨w.heap.size, 0, none⟩ = false := frozen_of_block RB_E1.out
      have qy1 : wE1.cell? ⟨w.heap.size, 1, none⟩ = some (.slice none 0 0) := cell_of_block RB_E1.out
      have qyf1 : wE1.frozen? ⟨w.heap.size, 1, none⟩ = false := frozen_of_block RB_E1.out
      go_wp2
      have hs2 := grown_trans (grown_setCell wE1 w.heap.size 0 (.string (R.str nm))) (grown_setCell _ w.heap.size 1 (.slice la acc.length lc))
      refine bodyPost_ret (v := .agg #[.string (R.str nm), .slice la acc.length lc]) (by simp [results, Tryz.results148, go_sem, qy0, qy1]) rfl ⟨_, by rw [HP2.out], ?_, grown_new CE1.out hs2 (Nat.le_refl _), ?_⟩
      · rw [HP2.out]; exact JE1.out.other hs2 (by omega)
      · rw [HP2.out]; exact HO2.out.keep hs2 (safe_box RB_E1.out (by decide))
    · rw [hgo] at HL1
      simp only [if_true] at HL1
      have hat := P.at_rule s.data.toList p (acc.map P.Rl.number) hgo
      have HL2 : Hid _ := HL1
      clear HL1 HL
      have qgl : w3.heap.size < wL1.heap.size := block_lt UB_L1.out
      have qg0 : wL1.cell? ⟨w3.heap.size, 0, none⟩ = some (.string (R.str nm)) := cell_of_block UB_L1.out
      have qg1 : wL1.cell? ⟨w3.heap.size, 1, none⟩ = some (.slice la acc.length lc) := cell_of_block UB_L1.out
      have HC : Hid (∀ w', wL1.grownBy w' none → Calls Tryz.prog 208 #[.pointer (some ⟨rb, 0, none⟩), .slice la acc.length lc] w' fun e w'' => ∃ cs, e = .returned (.agg cs.toArray) ∧ PInv w'' rb s (P.ruleS s.data.toList p (acc.map P.Rl.number)).2 ∧ w'.grownBy w'' (some rb) ∧ PRuleVal w'' cs (P.ruleS s.data.toList p (acc.map P.Rl.number)).1) := fun w' hg => pro_rule (JL1.out.keep hg) w.heap.size _ acc (HO1.out.keep hg (safe_none _ _)) (by omega)
      generalize P.ruleS s.data.toList p (acc.map P.Rl.number) = qs at *
      obtain ⟨nw, p2⟩ := qs
      simp only at HL2 hat HC
      have HLD : Hid (acc.length + 1 ≤ maxLen) := by show _ ≤ _; unfold maxLen; omega
      go_wp2
      go_region_law (first | (refine step_append_lies _ rfl (.tmp 21) (.tmp 26) 144 rfl w.heap.size 213 i0 _ 7 136 Tryz.underlying144 hi hz0 hz1 hz2 rfl (by decide) _ _ _ (by simp [Act.eval]) (World.ownsRow.alloc HRo.out _) ⟨wN.heap.size, 0, none⟩ 1 1 [.int .i64 nw.number, .string (R.str nw.path), .slice m1 nw.ms.length m2, .slice t1 nw.tg.length t2, .string (R.str nw.rep), .slice x1 nw.sets.length x2, .slice d1 nw.drops.length d2] (by simp [Act.eval]) rfl HND.out H1D.out (by decide) HLD.out (by omega) HBD.out (wN.heap.size + 1) HZD.out ?_; intro g9 cap9 w9 hown9 hgrow9 hat9 hlt9; have far9 : ∀ k, (Value.slice la acc.length lc).ownBlock = some k → w.heap.size ≤ k := fun k hk => (World.ownsRow.lt HRo.out k hk).1; have J9 : Hid (PInv w9 rb s p2) := (JN.out.keep (World.grownBy_alloc _ _ _)).away hgrow9 (fun k hk => by { have h1 := far9 k hk; omega }); have C9 : Hid (w.grownBy w9 (some rb)) := grown_far (grown_trans CN.out (World.grownBy_alloc _ _ _)) hgrow9 far9; have RB_9 : Hid (w9.heap[w.heap.size]? = some (.cells #[.string ⟨#[]⟩, .slice none 0 0] 146)) := keep_away (keep_block RB_N.out (World.grownBy_alloc _ _ none) (by simp)) hgrow9 (fun k hk => box_apart RB_N.out HRo.out (by decide) k hk); have UB_9 : Hid (w9.heap[w3.heap.size]? = some (.cells #[.string (R.str nm), .slice la acc.length lc] 146)) := keep_away (keep_block UB_N.out (World.grownBy_alloc _ _ none) (by simp)) hgrow9 (fun k hk => box_apart UB_N.out HRo.out (by decide) k hk); have gA : wN.grownBy (wN.alloc (.cells #[.int .i64 nw.number, .string (R.str nw.path), .slice m1 nw.ms.length m2, .slice t1 nw.tg.length t2, .string (R.str nw.rep), .slice x1 nw.sets.length x2, .slice d1 nw.drops.length d2] 213)) none := World.grownBy_alloc _ _ _; have hsafe9 : Safe (wN.alloc (.cells #[.int .i64 nw.number, .string (R.str nw.path), .slice m1 nw.ms.length m2, .slice t1 nw.tg.length t2, .string (R.str nw.rep), .slice x1 nw.sets.length x2, .slice d1 nw.drops.length d2] 213)) (Value.slice la acc.length lc).ownBlock pleaves := safe_row (World.ownsRow.alloc HRo.out _) (by decide); have HO_9 : Hid (PRulesRow w9 w.heap.size (.slice (some ⟨g9, 0, none⟩) (acc.length + 1) cap9) (acc ++ [nw])) := ⟨css2 ++ [[.int .i64 nw.number, .string (R.str nw.path), .slice m1 nw.ms.length m2, .slice t1 nw.tg.length t2, .string (R.str nw.rep), .slice x1 nw.sets.length x2, .slice d1 nw.drops.length d2]], (by { rw [List.length_append, List.flatten_append]; exact hown9 }), (HAo.out.snoc HRV.out).map fun a b hab => (hab.keep gA (safe_none _ _)).keep hgrow9 hsafe9⟩; have q9 : w9.cell? ⟨w3.heap.size, 1, none⟩ = some (.slice la acc.length lc) := cell_of_block UB_9.out; have q9f : w9.frozen? ⟨w3.heap.size, 1, none⟩ = false := frozen_of_block UB_9.out; clear hown9 hgrow9 far9 gA hsafe9) | (go_simp; go_at_call 208; refine (HC.out _ (grown_drew wL1)).mono ?_; rintro e wN ⟨cs, rfl, IN, hgN, hRV⟩; obtain ⟨vM, vT, vS, vD, rfl, hM, hT, hS, hD⟩ := hRV; obtain ⟨m1, m2, rfl⟩ := len_row hM; obtain ⟨t1, t2, rfl⟩ := len_row hT; obtain ⟨x1, x2, rfl⟩ := len_row hS; obtain ⟨d1, d2, rfl⟩ := len_row hD; have HRV : Hid (PRuleVal wN [.int .i64 nw.number, .string (R.str nw.path), .slice m1 nw.ms.length m2, .slice t1 nw.tg.length t2, .string (R.str nw.rep), .slice x1 nw.sets.length x2, .slice d1 nw.drops.length d2] nw) := ⟨_, _, _, _, rfl, hM, hT, hS, hD⟩; have GN : wL1.grownBy wN (some rb) := grown_trans (grown_wide (grown_drew wL1) _) hgN; have JN : Hid (PInv wN rb s p2) := IN; have CN : Hid (w.grownBy wN (some rb)) := grown_trans CL1.out GN; have sN : wL1.heap.size ≤ wN.heap.size := GN.size; have RB_N : Hid (wN.heap[w.heap.size]? = some (.cells #[.string ⟨#[]⟩, .slice none 0 0] 146)) := keep_block RB_L1.out GN (by simp; omega); have UB_N : Hid (wN.heap[w3.heap.size]? = some (.cells #[.string (R.str nm), .slice la acc.length lc] 146)) := keep_block UB_L1.out GN (by simp; omega); have HO_N : Hid (PRulesRow wN w.heap.size (.slice la acc.length lc) acc) := HO1.out.keep GN (JL1.out.safe (by decide)); obtain ⟨css2, hrow2, hall2⟩ := HO_N.out; have HRo : Hid _ := hrow2; have HAo : Hid _ := hall2; have qn0 : wN.cell? ⟨w3.heap.size, 0, none⟩ = some (.string (R.str nm)) := cell_of_block UB_N.out; have qn1 : wN.cell? ⟨w3.heap.size, 1, none⟩ = some (.slice la acc.length lc) := cell_of_block UB_N.out; have qnl : w3.heap.size < wN.heap.size := block_lt UB_N.out; have bN : rb < wN.heap.size := block_lt JN.out.rd; have HND : Hid (∀ j u, ([.int .i64 nw.number, .string (R.str nw.path), .slice m1 nw.ms.length m2, .slice t1 nw.tg.length t2, .string (R.str nw.rep), .slice x1 nw.sets.length x2, .slice d1 nw.drops.length d2] : List Value)[j]? = some u → (wN.alloc (.cells #[.int .i64 nw.number, .string (R.str nw.path), .slice m1 nw.ms.length m2, .slice t1 nw.tg.length t2, .string (R.str nw.rep), .slice x1 nw.sets.length x2, .slice d1 nw.drops.length d2] 213)).cell? ((⟨wN.heap.size, 0, none⟩ : Addr).add j) = some u) := cells_new wN #[_, _, _, _, _, _, _] _ _ rfl; have H1D : Hid (∀ u ∈ ([.int .i64 nw.number, .string (R.str nw.path), .slice m1 nw.ms.length m2, .slice t1 nw.tg.length t2, .string (R.str nw.rep), .slice x1 nw.sets.length x2, .slice d1 nw.drops.length d2] : List Value), u.oneCell' = true) := by { intro u hu; simp only [List.mem_cons, List.mem_nil_iff, or_false] at hu; rcases hu with rfl | rfl | rfl | rfl | rfl | rfl | rfl <;> rfl }; have HBD : Hid (w.heap.size ≤ (wN.alloc (.cells #[.int .i64 nw.number, .string (R.str nw.path), .slice m1 nw.ms.length m2, .slice t1 nw.tg.length t2, .string (R.str nw.rep), .slice x1 nw.sets.length x2, .slice d1 nw.drops.length d2] 213)).heap.size) := by { show _ ≤ _; rw [show (wN.alloc (.cells #[.int .i64 nw.number, .string (R.str nw.path), .slice m1 nw.ms.length m2, .slice t1 nw.tg.length t2, .string (R.str nw.rep), .slice x1 nw.sets.length x2, .slice d1 nw.drops.length d2] 213)).heap.size = wN.heap.size + 1 from by simp]; omega }; have HZD : Hid ((wN.alloc (.cells #[.int .i64 nw.number, .string (R.str nw.path), .slice m1 nw.ms.length m2, .slice t1 nw.tg.length t2, .string (R.str nw.rep), .slice x1 nw.sets.length x2, .slice d1 nw.drops.length d2] 213)).heap.size = wN.heap.size + 1) := by { show _ = _; simp }; clear IN hgN GN hM hT hS hD hrow2 hall2))
      all_goals
        have gS := grown_setCell w9 w3.heap.size 1 (.slice (some ⟨g9, 0, none⟩) (acc.length + 1) cap9)
        have JS : Hid _ := J9.out.other gS (by omega)
        have CS : Hid (w.grownBy (w9.setCell ⟨w3.heap.size, 1, none⟩ (.slice (some ⟨g9, 0, none⟩) (acc.length + 1) cap9)) (some rb)) := grown_new C9.out gS (by omega)
        have RB_S : Hid ((w9.setCell ⟨w3.heap.size, 1, none⟩ (.slice (some ⟨g9, 0, none⟩) (acc.length + 1) cap9)).heap[w.heap.size]? = some (.cells #[.string ⟨#[]⟩, .slice none 0 0] 146)) := keep_block RB_9.out gS (by simp; omega)
        have UB_S : Hid ((w9.setCell ⟨w3.heap.size, 1, none⟩ (.slice (some ⟨g9, 0, none⟩) (acc.length + 1) cap9)).heap[w3.heap.size]? = some (.cells #[.string (R.str nm), .slice (some ⟨g9, 0, none⟩) (acc.length + 1) cap9] 146)) := block_setCell UB_9.out _
        have HO_S : Hid _ := HO_9.out.keep gS (safe_box UB_9.out (by decide))
        have HMe : Hid (atOf (w9.setCell ⟨w3.heap.size, 1, none⟩ (.slice (some ⟨g9, 0, none⟩) (acc.length + 1) cap9)) rb = p2.tok.at_) := atOf_of JS.out
        have HM0 : Hid (atOf wr rb = p.tok.at_) := atOf_of IR.out
        have hb2 := JS.out.bd
        clear gS
        go_wp2
        go_roundw
        case rel => exact ⟨n, acc ++ [nw], p2, _, by rw [List.length_append]; simp; omega, by omega, by omega, HL2, JS, CS, RB_S, UB_S, HO_S⟩
        case measure => rw [HMe.out, HM0.out]; omega

end Go.Proofs.YtfocdefchbnkpaaGreatDoor

/- All hosts of a text, as the program's reader reads them. -/
namespace Go.Proofs.YtfocdefchbnkpaaGreatDoor
open Go.RowKit

theorem info_phs : (Tryz.prog.info? 146).map (fun i => (i.zero, i.size, i.bytes)) = some (some (.agg #[.string ⟨#[]⟩, .slice none 0 0]), 2, 40) := by kernel_rfl

/-- Where a host's rules lie. -/
def rblk (cs : List Value) : Option Nat := (cs[1]?.getD undef).ownBlock
/-- Hosts whose rules lie apart from one another. -/
def PHosts (w : World) (B : Nat) (v : Value) (hs : List P.Hst) : Prop :=
  ∃ css : List (List Value), w.ownsRow B 146 2 v hs.length css.flatten ∧ All2 (PHostVal w) css hs ∧ css.Pairwise (fun a b => ∀ k, rblk a = some k → rblk b ≠ some k) ∧ ∀ a ∈ css, ∀ k, rblk a = some k → B ≤ k
theorem PHosts.row {w : World} {B : Nat} {v : Value} {hs : List P.Hst} (h : PHosts w B v hs) : PHostsRow w B v hs := by obtain ⟨css, h1, h2, _⟩ := h; exact ⟨css, h1, h2⟩
theorem PHosts.keep {w w' : World} {B : Nat} {v : Value} {hs : List P.Hst} {row : Option Nat} (h : PHosts w B v hs) (hg : w.grownBy w' row) (hsf : Safe w row phtags) : PHosts w' B v hs := by
  obtain ⟨css, h1, h2, h3⟩ := h
  exact ⟨css, own_safe h1 hg hsf (by decide), h2.map fun a b hab => hab.keep hg (safe_sub hsf), h3⟩
theorem PHosts.nil (w : World) (B : Nat) : PHosts w B (.slice none 0 0) [] := ⟨[], World.ownsRow_nil _ _ _ _, .nil, .nil, fun a ha => by simp at ha⟩
theorem PHosts.len {w : World} {B : Nat} {v : Value} {hs : List P.Hst} (h : PHosts w B v hs) : ∃ a c, v = .slice a hs.length c := by obtain ⟨css, h1, _⟩ := h; exact len_row h1
theorem hostval_lt {w : World} {cs : List Value} {h : P.Hst} (hv : PHostVal w cs h) : ∀ k, rblk cs = some k → k < w.heap.size := by
  obtain ⟨vR, rfl, css, h1, _⟩ := hv
  intro k hk
  exact (World.ownsRow.lt h1 k hk).2
theorem all2_lt {w : World} {css : List (List Value)} {hs : List P.Hst} (h : All2 (PHostVal w) css hs) : ∀ a ∈ css, ∀ k, rblk a = some k → k < w.heap.size := by
  induction h with
  | nil => intro a ha; simp at ha
  | cons hc _ ih =>
    intro a ha
    rcases List.mem_cons.1 ha with rfl | ha
    · exact hostval_lt hc
    · exact ih a ha

set_option maxRecDepth 100000 in
set_option maxHeartbeats 8000000 in
theorem pro_hosts {w : World} {rb : Nat} {s : ByteArray} {st : P.St} (h : PInv w rb s st) (hG : Glob w) (hrb : rb ≠ 0) :
    Calls Tryz.prog 101 #[.pointer (some ⟨rb, 0, none⟩)] w fun e w' => ∃ v, e = .returned v ∧ PInv w' rb s (P.hsLoop s.data.toList (s.data.toList.length + 1) st []).2 ∧ w.grownBy w' (some rb) ∧ PHosts w' w.heap.size v (P.hsLoop s.data.toList (s.data.toList.length + 1) st []).1 := by
  obtain ⟨i0, hi, hz0, hz1, hz2⟩ := info_parts info_phs
  have H0 : Hid _ := h
  have brb : rb < w.heap.size := block_lt h.rd
  have hlen := h.len
  have b0 := h.bd
  have HG : Hid (Glob w) := hG
  clear h hG
  generalize hQ : P.hsLoop s.data.toList (s.data.toList.length + 1) st [] = Q at *
  have HQ : Hid _ := hQ
  clear hQ
  go_enter Tryz.func101, Tryz.ntmps101
  go_wp2_with fail
  go_loopw [3] (fun v wr => ∃ (n : Nat) (acc : List P.Hst) (p : P.St), acc.length ≤ p.tok.at_ ∧ p.tok.at_ ≤ s.size ∧ s.size < n + p.tok.at_ ∧ Hid (P.hsLoop s.data.toList n p acc = Q) ∧ Hid (PInv wr rb s p) ∧ Hid (w.grownBy wr (some rb)) ∧ Hid (PHosts wr w.heap.size v acc)) (fun _ wr => s.size + 1 - atOf wr rb)
  case atStart => exact ⟨s.data.toList.length + 1, [], st, Nat.zero_le _, by omega, by rw [R.size_eq]; omega, HQ.out, H0, grown_refl _ _, PHosts.nil _ _⟩
  case round =>
    obtain ⟨n, acc, p, hal, hpl, hnn, HL, IR, CR, HO⟩ := hrel
    have bwr : rb < wr.heap.size := block_lt IR.out.rd
    have zwr : w.heap.size ≤ wr.heap.size := CR.out.size
    obtain ⟨n, rfl⟩ : ∃ m, n = m + 1 := ⟨n - 1, by omega⟩
    have HL1 := HL.out
    rw [P.hsLoop] at HL1
    obtain ⟨la, lc, rfl⟩ := HO.out.len
    go_wp2_with fail
    refine (pro_sees IR.out _).mono ?_
    rintro e wL1 ⟨rfl, ggL1⟩
    have hgL1 := grown_wide ggL1 (some rb)
    have JL1 : Hid _ := (IR.out).keep ggL1
    have bL1 : rb < wL1.heap.size := block_lt JL1.out.rd
    have sL1 : wr.heap.size + 0 ≤ wL1.heap.size := by have h := hgL1.size; simpa using h
    have GL1 : Hid (wr.grownBy wL1 (some rb)) := hgL1
    have CL1 : Hid (w.grownBy wL1 (some rb)) := grown_trans CR.out GL1.out
    have zL1 : w.heap.size ≤ wL1.heap.size := CL1.out.size
    clear hgL1 ggL1
    have HO1 : Hid (PHosts wL1 w.heap.size (.slice la acc.length lc) acc) := HO.out.keep GL1.out (IR.out.safe (by decide))
    rw [show (⟨#[104, 111, 115, 116]⟩ : ByteArray).data.toList = R.wHost from rfl]
    cases hgo : P.sees p R.wHost
    · rw [hgo] at HL1
      simp only [Bool.false_eq_true, if_false] at HL1
      have HF : Hid (Q = (acc, p)) := HL1.symm
      clear HL1 HL
      go_wp2
      go_ret
      exact ⟨_, rfl, by rw [HF.out]; exact JL1.out, CL1.out, by rw [HF.out]; exact HO1.out⟩
    · rw [hgo] at HL1
      simp only [if_true] at HL1
      have hat := P.at_host s.data.toList p (acc.map P.Hst.name) hgo
      have HL2 : Hid _ := HL1
      clear HL1 HL
      go_wp2_with fail
      refine (pro_host JL1.out w.heap.size _ acc HO1.out.row (by omega) (HG.out.keep CL1.out (by simpa using hrb)) hrb).mono ?_
      rintro e wN ⟨vR, rfl, IN, hgN, hRR⟩
      generalize P.hostS s.data.toList p (acc.map P.Hst.name) = qs at *
      obtain ⟨nw, p2⟩ := qs
      simp only at HL2 hat IN hRR ⊢
      obtain ⟨r1, r2, rfl⟩ := prow_len hRR
      have JN : Hid (PInv wN rb s p2) := IN
      have bN : rb < wN.heap.size := block_lt JN.out.rd
      have sN : wL1.heap.size ≤ wN.heap.size := hgN.size
      have zL1 : w.heap.size ≤ wL1.heap.size := CL1.out.size
      
      have CN : Hid (w.grownBy wN (some rb)) := grown_trans CL1.out hgN
      have zN : w.heap.size ≤ wN.heap.size := CN.out.size
      have HRR : Hid (PRulesRow wN wL1.heap.size (.slice r1 nw.rules.length r2) nw.rules) := hRR
      obtain ⟨css, hrow1, hall1, hpw, hfl⟩ := HO1.out
      have hsf := JL1.out.safe (l := phtags) (by decide)
      have HRo : Hid (wN.ownsRow w.heap.size 146 2 (.slice la acc.length lc) acc.length css.flatten) := own_safe hrow1 hgN hsf (by decide)
      have HAo : Hid (All2 (PHostVal wN) css acc) := hall1.map fun a b hab => hab.keep hgN (safe_sub hsf)
      have HPw : Hid (css.Pairwise (fun a b => ∀ k, rblk a = some k → rblk b ≠ some k)) := hpw
      have HFl : Hid (∀ a ∈ css, ∀ k, rblk a = some k → w.heap.size ≤ k) := hfl
      have HLt : Hid (∀ a ∈ css, ∀ k, rblk a = some k → k < wL1.heap.size) := all2_lt hall1
      clear IN hgN hRR hrow1 hall1 hpw hfl hsf
      go_wp2_with (at_builtin; refine wpList_append_lies _ rfl _ _ 86 rfl (w.heap.size) 146 i0 _ 2 40 Tryz.underlying86 hi hz0 hz1 hz2 rfl (by decide) _ _ _ rfl (World.ownsRow.alloc HRo.out _) ⟨wN.heap.size, 0, none⟩ 1 1 [.string (R.str nw.name), .slice r1 nw.rules.length r2] rfl rfl ?c1 ?c2 (by decide) ?c3 ?c4 ?c5 (wN.heap.size + 1) (by simp) ?_)
      case c1 => exact cells_new _ #[_, _] _ _ (by simp)
      case c2 => intro u hu; simp at hu; rcases hu with rfl | rfl <;> rfl
      case c3 => unfold maxLen; omega
      case c4 => omega
      case c5 => simp; omega
      intro g9 cap9 w9 hown9 hgrow9 hat9 hlt9
      have gA : wN.grownBy (wN.alloc (.cells #[.string (R.str nw.name), .slice r1 nw.rules.length r2] 146)) none := World.grownBy_alloc _ _ _
      have hsafe9 : Safe (wN.alloc (.cells #[.string (R.str nw.name), .slice r1 nw.rules.length r2] 146)) (Value.slice la acc.length lc).ownBlock prtags := safe_row (World.ownsRow.alloc HRo.out _) (by decide)
      have far9 : ∀ k, (Value.slice la acc.length lc).ownBlock = some k → w.heap.size ≤ k := fun k hk => (World.ownsRow.lt HRo.out k hk).1
      have HO9 : Hid (PHosts w9 w.heap.size (.slice (some ⟨g9, 0, none⟩) (acc.length + 1) cap9) (acc ++ [nw])) := by
        refine ⟨css ++ [[.string (R.str nw.name), .slice r1 nw.rules.length r2]], ?_, ?_, ?_, ?_⟩
        · rw [List.length_append, List.flatten_append]; exact hown9
        · exact (HAo.out.snoc ⟨_, rfl, HRR.out.base (Nat.zero_le _)⟩).map fun a b hab => (hab.keep gA (safe_none _ _)).keep hgrow9 hsafe9
        · rw [List.pairwise_append]
          refine ⟨HPw.out, List.pairwise_singleton _ _, ?_⟩
          intro a ha b hb k hk hk2
          simp at hb; subst hb
          have h1 := HLt.out a ha k hk
          obtain ⟨cr, hr, _⟩ := HRR.out
          have h2 := (World.ownsRow.lt hr k hk2).1
          omega
        · intro a ha k hk
          rcases List.mem_append.1 ha with ha | ha
          · exact HFl.out a ha k hk
          · simp at ha; subst ha
            obtain ⟨cr, hr, _⟩ := HRR.out
            have h2 := (World.ownsRow.lt hr k hk).1
            omega
      have J9 : Hid (PInv w9 rb s p2) := (JN.out.keep gA).away hgrow9 (fun k hk => by have h1 := far9 k hk; omega)
      have C9 : Hid (w.grownBy w9 (some rb)) := grown_far (grown_trans CN.out (grown_wide gA _)) hgrow9 far9
      have HMe : Hid (atOf w9 rb = p2.tok.at_) := atOf_of J9.out
      have HM0 : Hid (atOf wr rb = p.tok.at_) := atOf_of IR.out
      have hb2 := J9.out.bd
      clear hown9 hgrow9 gA hsafe9 far9
      go_wp2
      go_roundw
      case rel => exact ⟨n, acc ++ [nw], p2, by rw [List.length_append]; simp; omega, by omega, by omega, HL2, J9, C9, HO9⟩
      case measure => rw [HMe.out, HM0.out]; omega

end Go.Proofs.YtfocdefchbnkpaaGreatDoor
