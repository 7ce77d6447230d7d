/- A host, as the document's own reader reads it: the walk. -/
import Derived.Test.YtfocdefchbnkpaaGreatDoorRefK
import Derived.Deep.CutRange
import Derived.Deep.RegionLaw
import Derived.Deep.AppendLies
namespace Go.Proofs.YtfocdefchbnkpaaGreatDoor
open Go.RowKit

theorem info_rl : (Tryz.prog.info? 126).map (fun i => (i.zero, i.size, i.bytes)) = some (some (.agg #[.int .i64 0, .string ⟨#[]⟩, .slice none 0 0, .slice none 0 0, .bool false, .string ⟨#[]⟩, .slice none 0 0, .slice none 0 0]), 8, 144) := by kernel_rfl
theorem info_hs : (Tryz.prog.info? 119).map (fun i => (i.zero, i.size, i.bytes)) = some (some (.agg #[.string ⟨#[]⟩, .slice none 0 0]), 2, 40) := by kernel_rfl

theorem below_rb {w w' : World} {rb B : Nat} (h : w.grownBy w' (some rb)) (hB : B ≤ rb) : B ≤ w.heap.size → Below B w w' := fun hs =>
  ⟨h.os, h.tape, h.output, h.size, fun k hk => h.block k (by omega) (by simp; omega)⟩

set_option maxRecDepth 100000 in
set_option maxHeartbeats 4000000 in
theorem ref_host {w : World} {rb g cap B : Nat} {ts : List R.Tok} {st : R.St} {H : Value} (h : RInv w rb g cap ts st H) (hs : List R.Hst) (hH : HostsRow w B H hs) (hB : B ≤ rb) (hlen : hs.length ≤ 4000) :
    Calls Tryz.prog 52 #[.pointer (some ⟨rb, 0, none⟩)] w fun e w' => e = .returned (.tuple #[]) ∧ Below B w w' ∧ ∃ H', RInv w' rb g cap ts (R.hostS ts st (hs.map R.Hst.name)).2 H' ∧ HostsRow w' B H' (hs ++ [(R.hostS ts st (hs.map R.Hst.name)).1]) := by
  obtain ⟨i0, hi, hz0, hz1, hz2⟩ := info_parts info_rl
  obtain ⟨i1, hj, hj0, hj1, hj2⟩ := info_parts info_hs
  have HP : Hid (R.hostS ts st (hs.map R.Hst.name) = R.hsB ts (R.hsA ts st (hs.map R.Hst.name))) := rfl
  have HAe : Hid (R.hsA ts st (hs.map R.Hst.name) = R.hsA2 ts (R.notS (R.needS ts st R.wHost) (decide (((hs.map R.Hst.name).length : Int) < 4)) 3 (R.cur ts st).at_) (hs.map R.Hst.name)) := rfl
  rw [List.length_map] at HAe
  have HH : Hid _ := hH
  obtain ⟨css, hrow, hall⟩ := hH
  have HRow : Hid _ := hrow
  have HAll : Hid _ := hall
  obtain ⟨ha, hc, rfl⟩ := len_row hrow
  have H0 : Hid _ := h
  have brb : rb < w.heap.size := block_lt h.rd
  have hgl : g < w.heap.size := h.gl
  generalize R.hostS ts st (hs.map R.Hst.name) = r at *
  clear h hrow hall
  go_enter Tryz.func52, Tryz.ntmps52
  have C0 : Hid (w.grownBy w (some rb)) := grown_refl _ _
  go_wp2_with fail
  refine (ref_needS H0.out _).mono ?_
  rintro e w1 ⟨rfl, I1, hg1⟩
  have J1 : Hid _ := I1
  have b1 : rb < w1.heap.size := block_lt J1.out.rd
  have s1 : w.heap.size + 0 ≤ w1.heap.size := by have h := hg1.size; simpa using h
  have G1 : Hid (w.grownBy w1 (some rb)) := hg1
  have C1 : Hid (w.grownBy w1 (some rb)) := grown_trans C0.out G1.out
  have z1 : w.heap.size ≤ w1.heap.size := C1.out.size
  clear hg1 I1
  have c5 : w1.cell? ⟨rb, 5, none⟩ = some (.slice ha hs.length hc) := cell_of_block J1.out.rd
  go_wp2
  go_cut [] from 11 to 19 (fun wx => Hid (RInv wx rb g cap ts (R.notS (R.needS ts st R.wHost) (decide ((hs.length : Int) < 4)) 3 (R.cur ts st).at_) (.slice ha hs.length hc)) ∧ Hid (w.grownBy wx (some rb)))
  case first =>
    go_region_with (go_at_call 85; refine (ref_not ((J1.out.keep (World.grownBy_alloc _ _ _)).keep (grown_drew _)) _ _ _ _ _).mono ?_; rintro e w2 ⟨rfl, I2, hg2⟩)
    all_goals
      have J2 : Hid _ := I2
      have C2 : Hid (w.grownBy w2 (some rb)) := grown_trans C1.out (grown_trans (World.grownBy_alloc _ _ _) (grown_trans (grown_wide (grown_drew _) _) hg2))
      clear I2 hg2
      go_wp2_with fail
      go_meet
      case rel => exact ⟨J2, C2⟩
  case rest =>
    obtain ⟨J2, C2⟩ := hcut
    have bwc : rb < wc.heap.size := block_lt J2.out.rd
    have zwc : w.heap.size ≤ wc.heap.size := C2.out.size
    generalize R.notS (R.needS ts st R.wHost) (decide ((hs.length : Int) < 4)) 3 (R.cur ts st).at_ = s2 at *
    have HAf : Hid (R.hsA2 ts s2 (hs.map R.Hst.name) = (R.lower (R.cur ts s2).s, R.among (hs.map R.Hst.name) (R.lower (R.cur ts s2).s) (R.cur ts s2).at_ (R.notS (R.kindS ts s2 34) (R.named (R.cur ts s2).s true) 4 (R.cur ts s2).at_))) := rfl
    have HTs : Hid ((R.str (R.cur ts s2).s).size ≤ 3000) := J2.out.curlen
    have HTm : Hid ((R.str (R.cur ts s2).s).size ≤ maxLen) := by have := HTs.out; show _ ≤ _; unfold maxLen; omega
    have HTl : Hid ((R.str (R.cur ts s2).s).size ≤ 100000) := by have := HTs.out; show _ ≤ _; omega
    go_wp2_with fail
    refine (ref_kindS J2.out 34 (by decide) (by decide)).mono ?_
    rintro e wk1 ⟨rfl, Ik1, hgk1⟩
    have Jk1 : Hid _ := Ik1
    have bk1 : rb < wk1.heap.size := block_lt Jk1.out.rd
    have sk1 : wc.heap.size + 0 ≤ wk1.heap.size := by have h := hgk1.size; simpa using h
    have Gk1 : Hid (wc.grownBy wk1 (some rb)) := hgk1
    have Ck1 : Hid (w.grownBy wk1 (some rb)) := grown_trans C2.out Gk1.out
    have zk1 : w.heap.size ≤ wk1.heap.size := Ck1.out.size
    clear hgk1 Ik1
    go_wp2_with fail
    refine (ref_Named _ _ _ HTm.out).mono ?_
    rintro e wX ⟨rfl, hwX⟩
    rw [hwX]
    clear hwX wX
    rw [R.str_toList]
    go_wp2_with fail
    refine (ref_not (Jk1.out.keep (World.grownBy_alloc _ _ _)) _ _ _ _ _).mono ?_
    rintro e wk2 ⟨rfl, Ik2, hgk2⟩
    have Jk2 : Hid _ := Ik2
    have bk2 : rb < wk2.heap.size := block_lt Jk2.out.rd
    have sk2 : wk1.heap.size + 1 ≤ wk2.heap.size := by have h := hgk2.size; simpa using h
    have Gk2 : Hid (wk1.grownBy wk2 (some rb)) := (grown_trans (World.grownBy_alloc _ _ _) hgk2)
    have Ck2 : Hid (w.grownBy wk2 (some rb)) := grown_trans Ck1.out Gk2.out
    have zk2 : w.heap.size ≤ wk2.heap.size := Ck2.out.size
    have T3_k2 : Hid (wk2.heap[wk1.heap.size]? = some (.cells #[.int .u8 (R.cur ts s2).k, .string (R.str (R.cur ts s2).s), .int .i64 (R.cur ts s2).at_] 115)) := new_block hgk2 (by simp; omega)
    clear hgk2 Ik2
    have qT3l : wk1.heap.size < wk2.heap.size := block_lt T3_k2.out
    have qT30 : wk2.cell? ⟨wk1.heap.size, 0, none⟩ = some (.int .u8 (R.cur ts s2).k) := cell_of_block T3_k2.out
    have qT31 : wk2.cell? ⟨wk1.heap.size, 1, none⟩ = some (.string (R.str (R.cur ts s2).s)) := cell_of_block T3_k2.out
    have qT32 : wk2.cell? ⟨wk1.heap.size, 2, none⟩ = some (.int .i64 (R.cur ts s2).at_) := cell_of_block T3_k2.out
    go_wp2_with fail
    refine (ref_Lower _ _ HTl.out).mono ?_
    rintro e wk3 ⟨rfl, hbk3⟩
    have ggk3 := grown_of_below hbk3
    have hgk3 := grown_wide ggk3 (some rb)
    have Jk3 : Hid _ := (Jk2.out).keep ggk3
    have bk3 : rb < wk3.heap.size := block_lt Jk3.out.rd
    have sk3 : wk2.heap.size + 0 ≤ wk3.heap.size := by have h := hgk3.size; simpa using h
    have Gk3 : Hid (wk2.grownBy wk3 (some rb)) := hgk3
    have Ck3 : Hid (w.grownBy wk3 (some rb)) := grown_trans Ck2.out Gk3.out
    have zk3 : w.heap.size ≤ wk3.heap.size := Ck3.out.size
    have T3_k3 : Hid (wk3.heap[wk1.heap.size]? = some (.cells #[.int .u8 (R.cur ts s2).k, .string (R.str (R.cur ts s2).s), .int .i64 (R.cur ts s2).at_] 115)) := keep_block T3_k2.out Gk3.out (by simp; omega)
    clear hgk3 ggk3 hbk3
    rw [R.str_toList]
    generalize R.notS (R.kindS ts s2 34) (R.named (R.cur ts s2).s true) 4 (R.cur ts s2).at_ = s4 at *
    have hloL : (R.str (R.lower (R.cur ts s2).s)).size ≤ 3000 := by rw [R.str_size, lower_len]; exact HTs.out
    generalize R.lower (R.cur ts s2).s = lo at *
    generalize R.cur ts s2 = t at *
    go_wp2_with fail
    have Jk4 : Hid _ := Jk3.out.keep (World.grownBy_alloc wk3 (.cells #[.string (R.str lo), .slice none 0 0] 119) none)
    have Ck4 : Hid (w.grownBy (World.alloc wk3 (.cells #[.string (R.str lo), .slice none 0 0] 119)) (some rb)) := grown_trans Ck3.out (World.grownBy_alloc wk3 (.cells #[.string (R.str lo), .slice none 0 0] 119) _)
    have T3_k4 : Hid ((World.alloc wk3 (.cells #[.string (R.str lo), .slice none 0 0] 119)).heap[wk1.heap.size]? = some (.cells #[.int .u8 t.k, .string (R.str t.s), .int .i64 t.at_] 115)) := keep_block T3_k3.out (World.grownBy_alloc wk3 (.cells #[.string (R.str lo), .slice none 0 0] 119) none) (by simp)
    have HB_k4 : Hid ((World.alloc wk3 (.cells #[.string (R.str lo), .slice none 0 0] 119)).heap[wk3.heap.size]? = some (.cells #[.string (R.str lo), .slice none 0 0] 119)) := heap_alloc_new _ _
    have sk4 : wk3.heap.size + 1 ≤ (World.alloc wk3 (.cells #[.string (R.str lo), .slice none 0 0] 119)).heap.size := by simp
    have tk4 : (World.alloc wk3 (.cells #[.string (R.str lo), .slice none 0 0] 119)).heap.size ≤ wk3.heap.size + 1 := by simp
    generalize (World.alloc wk3 (.cells #[.string (R.str lo), .slice none 0 0] 119)) = wk4 at *
    have bk4 : rb < wk4.heap.size := by omega
    have zk4 : w.heap.size ≤ wk4.heap.size := Ck4.out.size
    go_loopw [6] (fun iv wr => ∃ k : Nat, k ≤ hs.length ∧ iv = .int .i64 k ∧ Hid (RInv wr rb g cap ts (R.among ((hs.map R.Hst.name).take k) lo t.at_ s4) (.slice ha hs.length hc)) ∧ Hid (wk4.grownBy wr (some rb))) (fun iv _ => hs.length - (intOf iv).toNat)
    case atStart => exact ⟨0, Nat.zero_le _, rfl, Jk4, grown_refl _ _⟩
    case round =>
      obtain ⟨k, hk, rfl, IR, HR⟩ := hrel
      have bwr : rb < wr.heap.size := block_lt IR.out.rd
      have sHr : wk4.heap.size ≤ wr.heap.size := HR.out.size
      have d5 : wr.cell? ⟨rb, 5, none⟩ = some (.slice ha hs.length hc) := cell_of_block IR.out.rd
      have CR : Hid (w.grownBy wr (some rb)) := grown_trans Ck4.out HR.out
      have zwr : w.heap.size ≤ wr.heap.size := CR.out.size
      have HB_r : Hid _ := keep_block HB_k4.out HR.out (by simp; omega)
      have hBl : wk3.heap.size < wr.heap.size := block_lt HB_r.out
      by_cases hlt : k < hs.length
      · obtain ⟨gh, gc, hgv, _, _⟩ := World.ownsRow.form HRow.out (by omega)
        simp only [Value.slice.injEq] at hgv
        obtain ⟨rfl, _, rfl⟩ := hgv
        have c1 : wr.cell? ⟨gh, k * 2, none⟩ = some (.string (R.str hs[k].name)) := by
          have hcc := World.ownsRow.cellAt HRow.out (k * 2) (by omega)
          rw [hosts_name HAll.out k hlt] at hcc
          exact CR.out.cell hcc (by simpa using box_apart H0.out.rd HRow.out (by decide) gh rfl)
        have n3 := keep_block T3_k4.out HR.out (by simp; omega)
        have q30 : wr.cell? ⟨wk1.heap.size, 0, none⟩ = some (.int .u8 t.k) := cell_of_block n3
        have q31 : wr.cell? ⟨wk1.heap.size, 1, none⟩ = some (.string (R.str t.s)) := cell_of_block n3
        have q32 : wr.cell? ⟨wk1.heap.size, 2, none⟩ = some (.int .i64 t.at_) := cell_of_block n3
        have qB0 : wr.cell? ⟨wk3.heap.size, 0, none⟩ = some (.string (R.str lo)) := cell_of_block HB_r.out
        clear n3
        have hq : ((R.str hs[k].name).toList == (R.str lo).toList) = decide (hs[k].name = lo) := by
          rw [toLs, ByteArray.toList_eq, R.str_toList]
        have HA : Hid (R.among ((hs.map R.Hst.name).take (k + 1)) lo t.at_ s4 = R.notS (R.among ((hs.map R.Hst.name).take k) lo t.at_ s4) (!decide (hs[k].name = lo)) 5 t.at_) := by
          show R.among _ _ _ _ = _
          unfold R.among; rw [List.take_succ_eq_append_getElem (by rw [List.length_map]; exact hlt), List.foldl_append, List.getElem_map, ← decide_not]; rfl
        generalize decide (hs[k].name = lo) = bb at *
        generalize R.str hs[k].name = lk at *
        generalize R.among ((hs.map R.Hst.name).take k) lo t.at_ s4 = stk at *
        go_wp2
        go_region_with (go_at_call 85; refine (ref_not (IR.out.keep (grown_drew wr)) _ _ _ _ _).mono ?_; rintro e wN ⟨rfl, IN, hgN⟩)
        all_goals
          have JN : Hid (RInv wN rb g cap ts (R.among ((hs.map R.Hst.name).take (k + 1)) lo t.at_ s4) (.slice (some ⟨gh, 0, none⟩) hs.length hc)) := by rw [HA.out]; exact IN
          have GN : Hid (wk4.grownBy wN (some rb)) := grown_trans HR.out (grown_trans (grown_wide (grown_drew wr) _) hgN)
          clear IN hgN
          go_wp2
          exact ⟨⟨k + 1, by omega, by go_num, JN, GN⟩, by simp [intOf]; omega⟩
      · rw [List.take_of_length_le (by rw [List.length_map]; omega)] at IR
        have HP2 : Hid (r = R.hsB ts (lo, R.among (hs.map R.Hst.name) lo t.at_ s4)) := by rw [← HAf.out, ← HAe.out]; exact HP.out
        generalize R.among (hs.map R.Hst.name) lo t.at_ s4 = sA at *
        go_wp2_with fail
        refine (ref_needS IR.out _).mono ?_
        rintro e wv1 ⟨rfl, Iv1, hgv1⟩
        have Jv1 : Hid _ := Iv1
        have bv1 : rb < wv1.heap.size := block_lt Jv1.out.rd
        have sv1 : wr.heap.size + 0 ≤ wv1.heap.size := by have h := hgv1.size; simpa using h
        have Gv1 : Hid (wr.grownBy wv1 (some rb)) := hgv1
        have Cv1 : Hid (w.grownBy wv1 (some rb)) := grown_trans CR.out Gv1.out
        have zv1 : w.heap.size ≤ wv1.heap.size := Cv1.out.size
        have HB_v1 : Hid (wv1.heap[wk3.heap.size]? = some (.cells #[.string (R.str lo), .slice none 0 0] 119)) := keep_block HB_r.out Gv1.out (by simp; omega)
        clear hgv1 Iv1
        have JB : Hid (RInv wv1 rb g cap ts (R.needS ts sA [123]) (.slice ha hs.length hc)) := Jv1
        have HP3 : Hid (r = (⟨lo, (R.rlLoop ts (ts.length + 1) (R.needS ts sA [123]) []).1⟩, R.needS ts (R.rlLoop ts (ts.length + 1) (R.needS ts sA [123]) []).2 [125])) := HP2.out
        clear HP2 HP HAe HAf J2 J1
        generalize R.needS ts sA [123] = sB at *
        generalize hq : R.rlLoop ts (ts.length + 1) sB [] = q at *
        have HQ : Hid _ := hq
        clear hq
        have hgB : wk3.heap.size < w.heap.size + 0 ∨ w.heap.size ≤ wk3.heap.size := by omega
        go_wp2_with fail
        go_loopw [7] (fun iv wz => ∃ (n : Nat) (acc : List R.Rl) (s : R.St) (vR : Value), iv = .int .i64 acc.length ∧ acc.length ≤ s.K ∧ s.K < ts.length ∧ ts.length < n + s.K ∧ Hid (R.rlLoop ts n s acc = q) ∧ Hid (RInv wz rb g cap ts s (.slice ha hs.length hc)) ∧ Hid (w.grownBy wz (some rb)) ∧ Hid (wz.heap[wk3.heap.size]? = some (.cells #[.string (R.str lo), vR] 119)) ∧ Hid (RulesRowB wz w.heap.size vR acc)) (fun iv _ => ts.length + 1 - (intOf iv).toNat)
        case atStart => exact ⟨ts.length + 1, [], sB, _, rfl, Nat.zero_le _, JB.out.lt, by omega, HQ.out, JB, Cv1, HB_v1, ⟨[], World.ownsRow_nil _ _ _ _, .nil⟩⟩
        case round =>
          obtain ⟨n, acc, s, vR, rfl, haK, hKl, hn, HL, IR2, HR2, HB2, HRR⟩ := hrel
          have bz : rb < wr.heap.size := block_lt IR2.out.rd
          have zz : w.heap.size ≤ wr.heap.size := HR2.out.size
          have hts := IR2.out.ok.len
          obtain ⟨n, rfl⟩ : ∃ m, n = m + 1 := ⟨n - 1, by omega⟩
          have HL1 := HL.out
          rw [R.rlLoop] at HL1
          have HRow2 : Hid (∃ css : List (List Value), wr.ownsRow w.heap.size 126 8 vR acc.length css.flatten ∧ All2 (RuleVal wr) css acc) := HRR.out
          obtain ⟨ra, rc, rfl⟩ := len_row HRow2.out.choose_spec.1
          clear HRow2
          have HB_x : Hid _ := HB2.out
          go_wp2_with fail
          refine (ref_isS IR2.out _).mono ?_
          rintro e wu1 ⟨rfl, ggu1⟩
          have hgu1 := grown_wide ggu1 (some rb)
          have Ju1 : Hid _ := (IR2.out).keep ggu1
          have bu1 : rb < wu1.heap.size := block_lt Ju1.out.rd
          have su1 : wr.heap.size + 0 ≤ wu1.heap.size := by have h := hgu1.size; simpa using h
          have Gu1 : Hid (wr.grownBy wu1 (some rb)) := hgu1
          have Cu1 : Hid (w.grownBy wu1 (some rb)) := grown_trans HR2.out Gu1.out
          have zu1 : w.heap.size ≤ wu1.heap.size := Cu1.out.size
          have HB_u1 : Hid (wu1.heap[wk3.heap.size]? = some (.cells #[.string (R.str lo), .slice ra acc.length rc] 119)) := keep_block HB_x.out Gu1.out (by simp; omega)
          clear hgu1 ggu1
          have RR_1 : Hid _ := RulesRowB.keep HRR.out Gu1.out (safe_box IR2.out.rd (by decide))
          rw [show (⟨#[114, 117, 108, 101]⟩ : ByteArray).data.toList = R.wRule from rfl]
          cases hgo : R.isB s (R.cur ts s) R.wRule
          · rw [if_neg (by rw [hgo]; simp)] at HL1
            have HF1 : Hid (q.1 = acc) := by rw [← HL1]; rfl
            have HF2 : Hid (q.2 = s) := by rw [← HL1]; rfl
            clear HL1 HL
            rw [HF1.out, HF2.out] at HP3
            go_wp2_with fail
            refine (ref_needS Ju1.out _).mono ?_
            rintro e wue1 ⟨rfl, Iue1, hgue1⟩
            have Jue1 : Hid _ := Iue1
            have bue1 : rb < wue1.heap.size := block_lt Jue1.out.rd
            have sue1 : wu1.heap.size + 0 ≤ wue1.heap.size := by have h := hgue1.size; simpa using h
            have Gue1 : Hid (wu1.grownBy wue1 (some rb)) := hgue1
            have Cue1 : Hid (w.grownBy wue1 (some rb)) := grown_trans Cu1.out Gue1.out
            have zue1 : w.heap.size ≤ wue1.heap.size := Cue1.out.size
            have HB_ue1 : Hid (wue1.heap[wk3.heap.size]? = some (.cells #[.string (R.str lo), .slice ra acc.length rc] 119)) := keep_block HB_u1.out Gue1.out (by simp; omega)
            clear hgue1 Iue1
            have RR_2 : Hid _ := RulesRowB.keep RR_1.out Gue1.out (safe_box Ju1.out.rd (by decide))
            have e5 : wue1.cell? ⟨rb, 5, none⟩ = some (.slice ha hs.length hc) := cell_of_block Jue1.out.rd
            have e5f : wue1.frozen? ⟨rb, 5, none⟩ = false := frozen_of_block Jue1.out.rd
            have qHBl : wk3.heap.size < wue1.heap.size := block_lt HB_ue1.out
            have qHB0 : wue1.cell? ⟨wk3.heap.size, 0, none⟩ = some (.string (R.str lo)) := cell_of_block HB_ue1.out
            have qHB1 : wue1.cell? ⟨wk3.heap.size, 1, none⟩ = some (.slice ra acc.length rc) := cell_of_block HB_ue1.out
            go_wp2
            have rowE : wue1.ownsRow B 119 2 (.slice ha hs.length hc) hs.length css.flatten := own_kept_box HRow.out Cue1.out (box_apart H0.out.rd HRow.out (by decide))
            have HallE : Hid (All2 (HostVal wue1) css hs) := HAll.out.map fun a b hab => hab.keep Cue1.out (safe_box H0.out.rd (by decide))
            have gD : wue1.grownBy (wue1.alloc (.cells #[.string (R.str lo), .slice ra acc.length rc] 119)).drew none := grown_trans (World.grownBy_alloc _ _ _) (grown_drew _)
            have HrowD : Hid ((wue1.alloc (.cells #[.string (R.str lo), .slice ra acc.length rc] 119)).drew.ownsRow B 119 2 (.slice ha hs.length hc) hs.length css.flatten) := rowE.alloc _
            have HND : Hid (∀ j u, [Value.string (R.str lo), .slice ra acc.length rc][j]? = some u → (wue1.alloc (.cells #[.string (R.str lo), .slice ra acc.length rc] 119)).drew.cell? ((⟨wue1.heap.size, 0, none⟩ : Addr).add j) = some u) := cells_new wue1 #[_, _] _ _ rfl
            have H1D : Hid (∀ u ∈ [Value.string (R.str lo), .slice ra acc.length rc], u.oneCell' = true) := by intro u hu; simp at hu; rcases hu with rfl | rfl <;> rfl
            have HLD : Hid (hs.length + 1 ≤ maxLen) := by show _ ≤ _; unfold maxLen; omega
            have HBD : Hid (B ≤ (wue1.alloc (.cells #[.string (R.str lo), .slice ra acc.length rc] 119)).drew.heap.size) := by show _ ≤ _; rw [show (wue1.alloc (.cells #[.string (R.str lo), .slice ra acc.length rc] 119)).drew.heap.size = wue1.heap.size + 1 from by simp]; omega
            have HZD : Hid ((wue1.alloc (.cells #[.string (R.str lo), .slice ra acc.length rc] 119)).drew.heap.size = wue1.heap.size + 1) := by show _ = _; simp
            have JD : Hid _ := Jue1.out.keep gD
            have HGd : Hid _ := gD
            clear gD rowE
            go_region_law (refine step_append_lies _ rfl (.tmp 79) (.tmp 81) 67 rfl B 119 i1 _ 2 40 Tryz.underlying67 hj hj0 hj1 hj2 rfl (by decide) _ _ _ (by simp [Act.eval]) HrowD.out ⟨wue1.heap.size, 0, none⟩ 1 1 [Value.string (R.str lo), .slice ra acc.length rc] (by simp [Act.eval]) rfl HND.out H1D.out (by decide) HLD.out (by omega) HBD.out (wue1.heap.size + 1) HZD.out ?_; intro g9 cap9 w9 hown9 hgrow9 hat9 hlt9; have K9 : Hid (RInv w9 rb g cap ts _ (.slice ha hs.length hc)) := JD.out.away hgrow9 (fun k hk => ⟨box_apart JD.out.rd HrowD.out (by decide) k hk, fun c => by obtain ⟨cur, hcur, _⟩ := JD.out.tk; exact box_apart hcur HrowD.out (by decide) k hk c⟩); have k9c : w9.cell? ⟨rb, 5, none⟩ = some (.slice ha hs.length hc) := cell_of_block K9.out.rd; have k9f : w9.frozen? ⟨rb, 5, none⟩ = false := frozen_of_block K9.out.rd)
            all_goals
              go_end0
              have gF := grown_setCell w9 rb 5 (.slice (some ⟨g9, 0, none⟩) (hs.length + 1) cap9)
              have sF : Safe w9 (some rb) htags := safe_box K9.out.rd (by decide)
              have sG : Safe (wue1.alloc (.cells #[.string (R.str lo), .slice ra acc.length rc] 119)).drew (Value.slice ha hs.length hc).ownBlock rtags := safe_row HrowD.out (by decide)
              have sF2 : Safe w9 (some rb) rtags := safe_box K9.out.rd (by decide)
              refine ⟨rfl, ?_, .slice (some ⟨g9, 0, none⟩) (hs.length + 1) cap9, ?_, ?_⟩
              · exact (((below_rb Cue1.out hB (by omega)).grown HGd.out (by omega) (fun k hk => by cases hk)).grown hgrow9 HBD.out (fun k hk => (World.ownsRow.lt HrowD.out k hk).1)).setCell hB _
              · rw [HP3.out]; exact K9.out.put gF (block_setCell K9.out.rd _) K9.out.lt
              · rw [HP3.out]
                refine ⟨css ++ [[.string (R.str lo), .slice ra acc.length rc]], ?_, ?_⟩
                · rw [List.length_append, List.flatten_append]
                  exact own_safe hown9 gF sF (by decide)
                · refine All2.snoc (HallE.out.map fun a b hab => ((hab.keep HGd.out (safe_none _ _)).keep hgrow9 sG).keep gF sF2) ⟨_, rfl, ?_⟩
                  exact RulesRow.keep (RulesRow.keep (RulesRow.keep (RulesRowB.zero RR_2.out) HGd.out (safe_none _ _)) hgrow9 sG) gF sF2
          · rw [if_pos (by rw [hgo])] at HL1
            have hKr := R.ruleS_K ts s acc.length (acc.map R.Rl.number) hgo
            have qHBl : wk3.heap.size < wu1.heap.size := block_lt HB_u1.out
            have qHB0 : wu1.cell? ⟨wk3.heap.size, 0, none⟩ = some (.string (R.str lo)) := cell_of_block HB_u1.out
            have qHB1 : wu1.cell? ⟨wk3.heap.size, 1, none⟩ = some (.slice ra acc.length rc) := cell_of_block HB_u1.out
            have HRne : Hid ((Value.slice ra acc.length rc).ownBlock ≠ some rb) := by
              obtain ⟨css2, h2, _⟩ := RR_1.out
              exact fun c => by have := (World.ownsRow.lt h2 rb c).1; omega
            go_wp2_with fail
            refine (ref_rule Ju1.out acc.length (.slice ra acc.length rc) acc (RulesRowB.zero RR_1.out) (by omega) HRne.out).mono ?_
            rintro e wU ⟨cs, rfl, IU, hgU, hRV⟩
            obtain ⟨vM, vT, vS, vD, rfl, hM, hT, hS, hD⟩ := hRV
            obtain ⟨m1, m2, rfl⟩ := len_row hM
            obtain ⟨t1, t2, rfl⟩ := len_row hT
            obtain ⟨x1, x2, rfl⟩ := len_row hS
            obtain ⟨d1, d2, rfl⟩ := len_row hD
            have HRV : Hid (RuleVal wU _ _) := ⟨_, _, _, _, rfl, hM, hT, hS, hD⟩
            clear hM hT hS hD
            generalize R.ruleS ts s acc.length (acc.map R.Rl.number) = pr at *
            obtain ⟨rl, sR⟩ := pr
            simp only at HL1 hKr IU HRV
            have HL2 : Hid _ := HL1
            clear HL1 HL
            have JU : Hid _ := IU
            have bU : rb < wU.heap.size := block_lt JU.out.rd
            have sU : wu1.heap.size ≤ wU.heap.size := hgU.size
            have CU : Hid (w.grownBy wU (some rb)) := grown_trans Cu1.out hgU
            have zU : w.heap.size ≤ wU.heap.size := CU.out.size
            have RR_U : Hid _ := RulesRowB.keep RR_1.out hgU (safe_box Ju1.out.rd (by decide))
            have HB_U : Hid (wU.heap[wk3.heap.size]? = some (.cells #[.string (R.str lo), .slice ra acc.length rc] 119)) := keep_block HB_u1.out hgU (by simp; omega)
            clear IU hgU
            have qzl : wk3.heap.size < wU.heap.size := block_lt HB_U.out
            have qz0 : wU.cell? ⟨wk3.heap.size, 0, none⟩ = some (.string (R.str lo)) := cell_of_block HB_U.out
            have qzf0 : wU.frozen? ⟨wk3.heap.size, 0, none⟩ = false := frozen_of_block HB_U.out
            have qz1 : wU.cell? ⟨wk3.heap.size, 1, none⟩ = some (.slice ra acc.length rc) := cell_of_block HB_U.out
            have qzf1 : wU.frozen? ⟨wk3.heap.size, 1, none⟩ = false := frozen_of_block HB_U.out
            obtain ⟨css2, hrow2, hall2⟩ := RR_U.out
            have HRo : Hid _ := hrow2
            have HAo : Hid _ := hall2
            clear hrow2 hall2
            go_wp2_with (at_builtin; refine wpList_append_lies _ rfl _ _ 117 rfl (w.heap.size) 126 i0 _ 8 144 Tryz.underlying117 hi hz0 hz1 hz2 rfl (by decide) _ _ _ rfl (World.ownsRow.alloc (World.ownsRow.alloc HRo.out _) _) ⟨wU.heap.size + 1, 0, none⟩ 1 1 [.int .i64 rl.number, .string (R.str rl.path), .slice m1 rl.ms.length m2, .slice t1 rl.tg.length t2, .bool rl.change, .string (R.str rl.to), .slice x1 rl.sets.length x2, .slice d1 rl.drops.length d2] rfl rfl ?c1 ?c2 (by decide) ?c3 ?c4 ?c5 (wU.heap.size + 2) (by simp) ?_)
            case c1 => exact cells_new _ #[_, _, _, _, _, _, _, _] _ _ (by simp)
            case c2 => intro u hu; simp at hu; rcases hu with rfl | rfl | rfl | rfl | rfl | rfl | rfl | rfl <;> rfl
            case c3 => unfold maxLen; omega
            case c4 => omega
            case c5 => simp; omega
            intro g9 cap9 w9 hown9 hgrow9 hat9 hlt9
            have hrow9 := hown9
            have gA : wU.grownBy ((wU.alloc (.cells #[.int .i64 rl.number, .string (R.str rl.path), .slice m1 rl.ms.length m2, .slice t1 rl.tg.length t2, .bool rl.change, .string (R.str rl.to), .slice x1 rl.sets.length x2, .slice d1 rl.drops.length d2] 126)).alloc (.cells #[.int .i64 rl.number, .string (R.str rl.path), .slice m1 rl.ms.length m2, .slice t1 rl.tg.length t2, .bool rl.change, .string (R.str rl.to), .slice x1 rl.sets.length x2, .slice d1 rl.drops.length d2] 126)) none := grown_trans (World.grownBy_alloc _ _ _) (World.grownBy_alloc _ _ _)
            have hsafe9 : Safe ((wU.alloc (.cells #[.int .i64 rl.number, .string (R.str rl.path), .slice m1 rl.ms.length m2, .slice t1 rl.tg.length t2, .bool rl.change, .string (R.str rl.to), .slice x1 rl.sets.length x2, .slice d1 rl.drops.length d2] 126)).alloc (.cells #[.int .i64 rl.number, .string (R.str rl.path), .slice m1 rl.ms.length m2, .slice t1 rl.tg.length t2, .bool rl.change, .string (R.str rl.to), .slice x1 rl.sets.length x2, .slice d1 rl.drops.length d2] 126)) (Value.slice ra acc.length rc).ownBlock leaves := safe_row (World.ownsRow.alloc (World.ownsRow.alloc HRo.out _) _) (by decide)
            have RR_9 : Hid (RulesRowB w9 w.heap.size (.slice (some ⟨g9, 0, none⟩) (acc.length + 1) cap9) (acc ++ [rl])) := by
              refine ⟨css2 ++ [[.int .i64 rl.number, .string (R.str rl.path), .slice m1 rl.ms.length m2, .slice t1 rl.tg.length t2, .bool rl.change, .string (R.str rl.to), .slice x1 rl.sets.length x2, .slice d1 rl.drops.length d2]], ?_, ?_⟩
              · rw [List.length_append, List.flatten_append]; exact hrow9
              · exact (HAo.out.snoc HRV.out).map fun a b hab => (hab.keep gA (safe_none _ _)).keep hgrow9 hsafe9
            have far9 : ∀ k, (Value.slice ra acc.length rc).ownBlock = some k → w.heap.size ≤ k := fun k hk => (World.ownsRow.lt HRo.out k hk).1
            have J9 : Hid (RInv w9 rb g cap ts sR (.slice ha hs.length hc)) := (JU.out.keep gA).away hgrow9 (fun k hk => by have h1 := far9 k hk; exact ⟨by omega, by omega⟩)
            have C9 : Hid (w.grownBy w9 (some rb)) := grown_far (grown_trans CU.out (grown_wide gA _)) hgrow9 far9
            have HB_9 : Hid (w9.heap[wk3.heap.size]? = some (.cells #[.string (R.str lo), .slice ra acc.length rc] 119)) := keep_away (keep_block HB_U.out gA (by simp)) hgrow9 (fun k hk => box_apart HB_U.out HRo.out (by decide) k hk)
            have b9 : rb < w9.heap.size := block_lt J9.out.rd
            have z9 : w.heap.size ≤ w9.heap.size := C9.out.size
            clear hown9 hrow9 hgrow9 hsafe9 gA far9
            have qwl : wk3.heap.size < w9.heap.size := block_lt HB_9.out
            have qw0 : w9.cell? ⟨wk3.heap.size, 0, none⟩ = some (.string (R.str lo)) := cell_of_block HB_9.out
            have qwf0 : w9.frozen? ⟨wk3.heap.size, 0, none⟩ = false := frozen_of_block HB_9.out
            have qw1 : w9.cell? ⟨wk3.heap.size, 1, none⟩ = some (.slice ra acc.length rc) := cell_of_block HB_9.out
            have qwf1 : w9.frozen? ⟨wk3.heap.size, 1, none⟩ = false := frozen_of_block HB_9.out
            have gS := grown_setCell w9 wk3.heap.size 1 (.slice (some ⟨g9, 0, none⟩) (acc.length + 1) cap9)
            have JS : Hid _ := J9.out.other gS (by omega) (by omega)
            have CS : Hid (w.grownBy (w9.setCell ⟨wk3.heap.size, 1, none⟩ (.slice (some ⟨g9, 0, none⟩) (acc.length + 1) cap9)) (some rb)) := grown_new C9.out gS (by omega)
            have HB_S : Hid ((w9.setCell ⟨wk3.heap.size, 1, none⟩ (.slice (some ⟨g9, 0, none⟩) (acc.length + 1) cap9)).heap[wk3.heap.size]? = some (.cells #[.string (R.str lo), .slice (some ⟨g9, 0, none⟩) (acc.length + 1) cap9] 119)) := block_setCell HB_9.out _
            have RR_S : Hid _ := RulesRowB.keep RR_9.out gS (safe_box HB_9.out (by decide))
            clear gS
            go_wp2
            go_roundw
            case rel => exact ⟨n, acc ++ [rl], sR, _, by rw [List.length_append]; go_num, by rw [List.length_append]; simp; omega, JS.out.lt, by omega, HL2, JS, CS, HB_S, RR_S⟩
            case measure => simp [intOf]; omega

end Go.Proofs.YtfocdefchbnkpaaGreatDoor
