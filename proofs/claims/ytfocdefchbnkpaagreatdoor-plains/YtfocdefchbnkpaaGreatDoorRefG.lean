/- The sum of the weights, and the targets of a rule, as the document's own reader reads them. -/
import Derived.Test.YtfocdefchbnkpaaGreatDoorRefF
namespace Go.Proofs.YtfocdefchbnkpaaGreatDoor
open Go.RowKit

theorem own_kept {w w' : World} {B rb : Nat} {e : TypeId} {size : Nat} {v : Value} {n : Nat} {xs : List Value} (h : w.ownsRow B e size v n xs) (hg : w.grownBy w' (some rb)) (hB : rb < B) : w'.ownsRow B e size v n xs := by
  refine h.kept hg ?_
  cases hv : v.ownBlock with
  | none => exact Or.inl rfl
  | some k => right; have := (h.lt k hv).1; simp; omega

/-- The weights of the targets ahead, as far as they are told. -/
def R.sumL : List R.Tok → Int
  | a :: b :: r => if a.k = 34 ∧ b.k = 49 then R.num b.s + R.sumL (r.drop 1) else 0
  | _ => 0
  termination_by l => l.length
  decreasing_by simp; omega

theorem R.sumL_step (ts : List R.Tok) (k : Nat) (h : k + 1 < ts.length) (h1 : ts[k].k = 34) (h2 : ts[k + 1].k = 49) : R.sumL (ts.drop k) = R.num ts[k + 1].s + R.sumL (ts.drop (k + 3)) := by
  rw [List.drop_eq_getElem_cons (by omega), List.drop_eq_getElem_cons (i := k + 1) (by omega), R.sumL, if_pos ⟨h1, h2⟩, List.drop_drop]
theorem R.sumL_stop (ts : List R.Tok) (k : Nat) (h : ¬ ∃ h : k + 1 < ts.length, ts[k].k = 34 ∧ ts[k + 1].k = 49) : R.sumL (ts.drop k) = 0 := by
  by_cases hk : k + 1 < ts.length
  · rw [List.drop_eq_getElem_cons (by omega), List.drop_eq_getElem_cons (i := k + 1) (by omega), R.sumL, if_neg (fun c => h ⟨hk, c⟩)]
  · by_cases hk2 : k < ts.length
    · rw [List.drop_eq_getElem_cons hk2, List.drop_of_length_le (by omega)]; unfold R.sumL; rfl
    · rw [List.drop_of_length_le (by omega)]; unfold R.sumL; rfl

set_option maxRecDepth 100000 in
set_option maxHeartbeats 1000000 in
theorem ref_sum {w : World} {rb g cap : Nat} {ts : List R.Tok} {st : R.St} {H : Value} (h : RInv w rb g cap ts st H) :
    Calls Tryz.prog 192 #[.pointer (some ⟨rb, 0, none⟩)] w fun e w' => e = .returned (.int .i64 (R.sumL (ts.drop st.K))) ∧ w.grownBy w' none := by
  have c1 : w.cell? ⟨rb, 1, none⟩ = some (.int .i64 st.K) := cell_of_block h.rd
  have hlt := h.lt
  have hsm := h.ok.len
  have H0 : Hid _ := h
  clear h
  go_enter Tryz.func192, Tryz.ntmps192
  go_wp2
  go_loopw [3, 4] (fun n i wr => ∃ (k : Nat) (m : Int), st.K ≤ k ∧ k ≤ ts.length + 3 ∧ i = .int .i64 k ∧ n = .int .i64 m ∧ 0 ≤ m ∧ m ≤ 100000 * k ∧ Hid (m + R.sumL (ts.drop k) = R.sumL (ts.drop st.K)) ∧ Hid (w.grownBy wr none)) (fun _ i _ => ts.length + 3 - (intOf i).toNat)
  case atStart => exact ⟨st.K, 0, Nat.le_refl _, by omega, rfl, rfl, by omega, by omega, by show _ = _; omega, grown_refl _ _⟩
  case round =>
    obtain ⟨k, m, hk1, hk2, rfl, rfl, hm0, hm1, HL, HR⟩ := hrel
    have IR : Hid _ := H0.out.keep HR.out
    have d0 : wr.cell? ⟨rb, 0, none⟩ = some (.slice (some ⟨g, 0, none⟩) ts.length cap) := cell_of_block IR.out.rd
    by_cases hin : k + 1 < ts.length
    · have t0 : wr.cell? ⟨g, k * 3, none⟩ = some (.int .u8 ts[k].k) := IR.out.tok k (by omega) 0 (by omega)
      have u0 : wr.cell? ⟨g, (k + 1) * 3, none⟩ = some (.int .u8 ts[k + 1].k) := IR.out.tok (k + 1) hin 0 (by omega)
      have u1 : wr.cell? ⟨g, (k + 1) * 3 + 1, none⟩ = some (.string (R.str ts[k + 1].s)) := IR.out.tok (k + 1) hin 1 (by omega)
      have u2 : wr.cell? ⟨g, (k + 1) * 3 + 2, none⟩ = some (.int .i64 ts[k + 1].at_) := IR.out.tok (k + 1) hin 2 (by omega)
      have hin2 : (k : Int) + 1 < ts.length := by omega
      by_cases hgo : ts[k].k = 34 ∧ ts[k + 1].k = 49
      · have g1 : (ts[k].k == 34) = true := by rw [hgo.1]; rfl
        have g2 : (ts[k + 1].k == 49) = true := by rw [hgo.2]; rfl
        have hnb := IR.out.ok.nums (k + 1) ts[k + 1] (by rw [List.getElem?_eq_getElem hin]) hgo.2
        have HS : Hid ((R.str ts[k + 1].s).size ≤ 3000) := by rw [R.str_size]; exact IR.out.ok.strs (k + 1) ts[k + 1] (by rw [List.getElem?_eq_getElem hin])
        have H2 : Hid ((m + R.num ts[k + 1].s) + R.sumL (ts.drop (k + 3)) = R.sumL (ts.drop st.K)) := by
          have := HL.out; rw [R.sumL_step ts k hin hgo.1 hgo.2] at this; show _ = _; omega
        generalize ts[k] = ta at *
        generalize ts[k + 1] = tb at *
        clear hgo HL
        go_wp2_with (go_at_call 132; refine (ref_number _ _ _ _ HS.out).mono ?_; rintro e w5 ⟨rfl, hg5⟩; rw [R.str_toList])
        exact ⟨⟨k + 3, m + R.num tb.s, by omega, by omega, by go_num, rfl, by omega, by omega, H2, grown_trans HR.out hg5⟩, by simp [intOf]; omega⟩
      · have H2 : Hid (m = R.sumL (ts.drop st.K)) := by
          have := HL.out; rw [R.sumL_stop ts k (fun ⟨_, c⟩ => hgo c)] at this; show _ = _; omega
        clear HL
        by_cases h34 : ts[k].k = 34
        · have g1 : (ts[k].k == 34) = true := by rw [h34]; rfl
          have g2 : (ts[k + 1].k == 49) = false := by rw [beq_eq_false_iff_ne]; exact fun c => hgo ⟨h34, c⟩
          generalize ts[k] = ta at *
          generalize ts[k + 1] = tb at *
          clear hgo h34
          go_wp2
          go_ret
          exact ⟨by rw [← H2.out]; rfl, HR.out⟩
        · have g1 : (ts[k].k == 34) = false := by rw [beq_eq_false_iff_ne]; exact h34
          generalize ts[k] = ta at *
          generalize ts[k + 1] = tb at *
          clear hgo h34
          go_wp2
          go_ret
          exact ⟨by rw [← H2.out]; rfl, HR.out⟩
    · have H2 : Hid (m = R.sumL (ts.drop st.K)) := by
        have := HL.out; rw [R.sumL_stop ts k (fun ⟨c, _⟩ => hin c)] at this; show _ = _; omega
      have hin2 : ¬ (k : Int) + 1 < ts.length := by omega
      clear HL
      go_wp2
      go_ret
      exact ⟨by rw [← H2.out]; rfl, HR.out⟩

/-- A row of one's own has grown that is neither the reader nor its tokens. -/
theorem RInv.away {w w' : World} {rb g cap : Nat} {ts : List R.Tok} {st : R.St} {H : Value} {row : Option Nat} (h : RInv w rb g cap ts st H) (hg : w.grownBy w' row) (hr : ∀ k, row = some k → k ≠ rb ∧ k ≠ g) : RInv w' rb g cap ts st H := by
  cases row with
  | none => exact h.keep hg
  | some k => exact h.other hg (hr k rfl).1 (hr k rfl).2
theorem grown_far {a b c : World} {row row2 : Option Nat} (h : a.grownBy b row) (hk : b.grownBy c row2) (hn : ∀ k, row2 = some k → a.heap.size ≤ k) : a.grownBy c row := by
  cases row2 with
  | none => exact grown_trans h (grown_wide hk _)
  | some k => exact grown_new h hk (hn k rfl)

/-- Targets in a row, as they lie: a name and a weight each. -/
def R.tgCells (l : List (List UInt8 × Int)) : List Value := (l.map fun t => [Value.string (R.str t.1), .int .i64 t.2]).flatten
theorem R.tgCells_snoc (l : List (List UInt8 × Int)) (t : List UInt8 × Int) : R.tgCells (l ++ [t]) = R.tgCells l ++ [Value.string (R.str t.1), .int .i64 t.2] := by simp [R.tgCells]

def R.tgRound (ts : List R.Tok) (st : R.St) (i : Nat) (acc : List (List UInt8 × Int)) : R.St × List (List UInt8 × Int) :=
  (R.notS (R.notS (R.notS (R.kindS ts (R.kindS ts st 34) 49) (decide ((i : Int) < 4)) 3 (R.cur ts st).at_) (R.upstream (R.cur ts st).s) 4 (R.cur ts st).at_) (decide (R.num (R.cur ts (R.kindS ts st 34)).s ≤ 1000)) 4 (R.cur ts (R.kindS ts st 34)).at_,
   if 0 < R.num (R.cur ts (R.kindS ts st 34)).s then acc ++ [((R.cur ts st).s, R.num (R.cur ts (R.kindS ts st 34)).s)] else acc)

def R.tgLoop (ts : List R.Tok) : Nat → R.St → Nat → List (List UInt8 × Int) → List (List UInt8 × Int) × R.St
  | 0, st, _, acc => (acc, st)
  | n + 1, st, i, acc =>
    if st.bad < 0 then
      if R.isB (R.tgRound ts st i acc).1 (R.cur ts (R.tgRound ts st i acc).1) [44] then R.tgLoop ts n (R.needS ts (R.tgRound ts st i acc).1 [44]) (i + 1) (R.tgRound ts st i acc).2
      else ((R.tgRound ts st i acc).2, (R.tgRound ts st i acc).1)
    else (acc, st)

def R.targetsS (ts : List R.Tok) (st : R.St) : List (List UInt8 × Int) × R.St :=
  ((R.tgLoop ts (ts.length + 1) (R.notS (R.needS ts st [116, 111]) (decide (0 < R.sumL (ts.drop (R.needS ts st [116, 111]).K))) 4 (R.cur ts st).at_) 0 []).1,
   R.needS ts (R.tgLoop ts (ts.length + 1) (R.notS (R.needS ts st [116, 111]) (decide (0 < R.sumL (ts.drop (R.needS ts st [116, 111]).K))) 4 (R.cur ts st).at_) 0 []).2 [59])

theorem R.overS_K (t : R.Tok) (st : R.St) (ok : Bool) : st.K ≤ (R.overS t st ok).K := by
  unfold R.overS; split
  · exact Nat.le_refl _
  · split <;> simp
theorem R.notS_K (st : R.St) (ok : Bool) (e a : Int) : (R.notS st ok e a).K = st.K := by
  unfold R.notS; split <;> rfl
theorem R.tgRound_K (ts : List R.Tok) (st : R.St) (i : Nat) (acc : List (List UInt8 × Int)) : st.K ≤ (R.tgRound ts st i acc).1.K := by
  unfold R.tgRound
  simp only [R.notS_K]
  exact Nat.le_trans (R.overS_K _ _ _) (R.overS_K _ _ _)
theorem R.needS_yes {ts : List R.Tok} {st : R.St} {s : List UInt8} (h : R.isB st (R.cur ts st) s = true) : R.needS ts st s = { st with K := st.K + 1 } := by
  unfold R.needS R.overS
  have hb : st.bad < 0 := by unfold R.isB at h; simp at h; exact h.1
  rw [if_neg (by omega), if_pos h]

theorem info_tg : (Tryz.prog.info? 183).map (fun i => (i.zero, i.size, i.bytes)) = some (some (.agg #[.string ⟨#[]⟩, .int .i64 0]), 2, 24) := by kernel_rfl

set_option maxRecDepth 100000 in
set_option maxHeartbeats 4000000 in
theorem ref_targets {w : World} {rb g cap : Nat} {ts : List R.Tok} {st : R.St} {H : Value} (h : RInv w rb g cap ts st H) :
    Calls Tryz.prog 135 #[.pointer (some ⟨rb, 0, none⟩)] w fun e w' => ∃ v, e = .returned v ∧ RInv w' rb g cap ts (R.targetsS ts st).2 H ∧ w.grownBy w' (some rb) ∧ w'.ownsRow w.heap.size 183 2 v (R.targetsS ts st).1.length (R.tgCells (R.targetsS ts st).1) := by
  obtain ⟨i0, hi, hz0, hz1, hz2⟩ := info_parts info_tg
  have HP : Hid (R.targetsS ts st = ((R.tgLoop ts (ts.length + 1) (R.notS (R.needS ts st [116, 111]) (decide (0 < R.sumL (ts.drop (R.needS ts st [116, 111]).K))) 4 (R.cur ts st).at_) 0 []).1,
   R.needS ts (R.tgLoop ts (ts.length + 1) (R.notS (R.needS ts st [116, 111]) (decide (0 < R.sumL (ts.drop (R.needS ts st [116, 111]).K))) 4 (R.cur ts st).at_) 0 []).2 [59])) := rfl
  have H0 : Hid _ := h
  have brb : rb < w.heap.size := block_lt h.rd
  generalize R.targetsS ts st = r at *
  clear h
  go_enter Tryz.func135, Tryz.ntmps135
  have C0 : Hid (w.grownBy w (some rb)) := grown_refl _ _
  go_wp2_with fail
  refine (ref_needS H0.out _).mono ?_
  rintro e w1 ⟨rfl, I1, hg1⟩
  have J1 : Hid _ := I1
  have b1 : rb < w1.heap.size := block_lt J1.out.rd
  have s1 : w.heap.size + 0 ≤ w1.heap.size := by have h := hg1.size; simpa using h
  have G1 : Hid (w.grownBy w1 (some rb)) := hg1
  have C1 : Hid (w.grownBy w1 (some rb)) := grown_trans C0.out G1.out
  have z1 : w.heap.size ≤ w1.heap.size := C1.out.size
  clear hg1 I1
  go_wp2_with fail
  refine (ref_sum (J1.out.keep (World.grownBy_alloc _ _ _))).mono ?_
  rintro e w2 ⟨rfl, gg2⟩
  have hg2 := grown_wide gg2 (some rb)
  have J2 : Hid _ := ((J1.out.keep (World.grownBy_alloc _ _ _))).keep gg2
  have b2 : rb < w2.heap.size := block_lt J2.out.rd
  have s2 : w1.heap.size + 1 ≤ w2.heap.size := by have h := hg2.size; simpa using h
  have G2 : Hid (w1.grownBy w2 (some rb)) := (grown_trans (World.grownBy_alloc _ _ _) hg2)
  have C2 : Hid (w.grownBy w2 (some rb)) := grown_trans C1.out G2.out
  have z2 : w.heap.size ≤ w2.heap.size := C2.out.size
  have TO_2 : Hid (w2.heap[w1.heap.size]? = some (.cells #[.int .u8 (R.cur ts st).k, .string (R.str (R.cur ts st).s), .int .i64 (R.cur ts st).at_] 115)) := new_block hg2 (by simp; omega)
  clear hg2 gg2
  have qTOl : w1.heap.size < w2.heap.size := block_lt TO_2.out
  have qTO0 : w2.cell? ⟨w1.heap.size, 0, none⟩ = some (.int .u8 (R.cur ts st).k) := cell_of_block TO_2.out
  have qTO1 : w2.cell? ⟨w1.heap.size, 1, none⟩ = some (.string (R.str (R.cur ts st).s)) := cell_of_block TO_2.out
  have qTO2 : w2.cell? ⟨w1.heap.size, 2, none⟩ = some (.int .i64 (R.cur ts st).at_) := cell_of_block TO_2.out
  go_wp2_with fail
  refine (ref_not J2.out _ _ _ _ _).mono ?_
  rintro e w3 ⟨rfl, I3, hg3⟩
  have J3 : Hid _ := I3
  have b3 : rb < w3.heap.size := block_lt J3.out.rd
  have s3 : w2.heap.size + 0 ≤ w3.heap.size := by have h := hg3.size; simpa using h
  have G3 : Hid (w2.grownBy w3 (some rb)) := hg3
  have C3 : Hid (w.grownBy w3 (some rb)) := grown_trans C2.out G3.out
  have z3 : w.heap.size ≤ w3.heap.size := C3.out.size
  have TO_3 : Hid (w3.heap[w1.heap.size]? = some (.cells #[.int .u8 (R.cur ts st).k, .string (R.str (R.cur ts st).s), .int .i64 (R.cur ts st).at_] 115)) := keep_block TO_2.out G3.out (by simp; omega)
  clear hg3 I3
  generalize R.notS (R.needS ts st [116, 111]) (decide (0 < R.sumL (ts.drop (R.needS ts st [116, 111]).K))) 4 (R.cur ts st).at_ = st3 at *
  go_wp2_with fail
  go_loopw [3, 6] (fun v iv wr => ∃ (i n : Nat) (acc : List (List UInt8 × Int)) (s : R.St), iv = .int .i64 i ∧ i ≤ s.K ∧ s.K < ts.length ∧ acc.length ≤ i ∧ ts.length < n + s.K ∧ Hid (R.tgLoop ts n s i acc = R.tgLoop ts (ts.length + 1) st3 0 []) ∧ Hid (RInv wr rb g cap ts s H) ∧ Hid (w.grownBy wr (some rb)) ∧ Hid (wr.ownsRow w.heap.size 183 2 v acc.length (R.tgCells acc))) (fun _ iv _ => ts.length + 1 - (intOf iv).toNat)
  case atStart => exact ⟨0, ts.length + 1, [], st3, rfl, Nat.zero_le _, J3.out.lt, Nat.le_refl _, by omega, rfl, J3, C3, World.ownsRow_nil _ _ _ _⟩
  case round =>
    obtain ⟨i, n, acc, s, rfl, hiK, hKl, hai, hn, HL, IR, HR, HO⟩ := hrel
    have bwr : rb < wr.heap.size := block_lt IR.out.rd
    have c2 : wr.cell? ⟨rb, 2, none⟩ = some (.int .i64 s.bad) := cell_of_block IR.out.rd
    have hts := IR.out.ok.len
    obtain ⟨n, rfl⟩ : ∃ m, n = m + 1 := ⟨n - 1, by omega⟩
    have HL1 := HL.out
    rw [R.tgLoop] at HL1
    by_cases hb : s.bad < 0
    · rw [if_pos hb] at HL1
      have hKr := R.tgRound_K ts s i acc
      have HRd : Hid (R.tgRound ts s i acc = (R.notS (R.notS (R.notS (R.kindS ts (R.kindS ts s 34) 49) (decide ((i : Int) < 4)) 3 (R.cur ts s).at_) (R.upstream (R.cur ts s).s) 4 (R.cur ts s).at_) (decide (R.num (R.cur ts (R.kindS ts s 34)).s ≤ 1000)) 4 (R.cur ts (R.kindS ts s 34)).at_,
        if 0 < R.num (R.cur ts (R.kindS ts s 34)).s then acc ++ [((R.cur ts s).s, R.num (R.cur ts (R.kindS ts s 34)).s)] else acc)) := rfl
      generalize R.tgRound ts s i acc = rr at *
      obtain ⟨s5, acc5⟩ := rr
      simp only at HL1 hKr
      have HL2 : Hid _ := HL1
      clear HL1 HL
      have HU : Hid ((R.str (R.cur ts s).s).size ≤ 3000) := IR.out.curlen
      have HU2 : Hid ((R.str (R.cur ts s).s).size ≤ maxLen) := by have := HU.out; show _ ≤ _; unfold maxLen; omega
      have HRd1 : Hid _ := (Prod.mk.inj HRd.out).1
      have HRd2 : Hid _ := (Prod.mk.inj HRd.out).2
      clear HRd
      have HO_L0 : Hid _ := HO.out
      go_wp2_with fail
      refine (ref_kindS IR.out 34 (by decide) (by decide)).mono ?_
      rintro e wL1 ⟨rfl, IL1, hgL1⟩
      have JL1 : Hid _ := IL1
      have bL1 : rb < wL1.heap.size := block_lt JL1.out.rd
      have sL1 : wr.heap.size + 0 ≤ wL1.heap.size := by have h := hgL1.size; simpa using h
      have GL1 : Hid (wr.grownBy wL1 (some rb)) := hgL1
      have CL1 : Hid (w.grownBy wL1 (some rb)) := grown_trans HR.out GL1.out
      have zL1 : w.heap.size ≤ wL1.heap.size := CL1.out.size
      have HO_L1 : Hid _ := own_kept HO_L0.out GL1.out (by omega)
      clear hgL1 IL1
      have HW : Hid ((R.str (R.cur ts (R.kindS ts s 34)).s).size ≤ 3000) := JL1.out.curlen
      go_wp2_with fail
      refine (ref_kindS (JL1.out.keep (World.grownBy_alloc _ _ _)) 49 (by decide) (by decide)).mono ?_
      rintro e wL2 ⟨rfl, IL2, hgL2⟩
      have JL2 : Hid _ := IL2
      have bL2 : rb < wL2.heap.size := block_lt JL2.out.rd
      have sL2 : wL1.heap.size + 1 ≤ wL2.heap.size := by have h := hgL2.size; simpa using h
      have GL2 : Hid (wL1.grownBy wL2 (some rb)) := (grown_trans (World.grownBy_alloc _ _ _) hgL2)
      have CL2 : Hid (w.grownBy wL2 (some rb)) := grown_trans CL1.out GL2.out
      have zL2 : w.heap.size ≤ wL2.heap.size := CL2.out.size
      have HO_L2 : Hid _ := own_kept HO_L1.out GL2.out (by omega)
      have T7_L2 : Hid (wL2.heap[wL1.heap.size]? = some (.cells #[.int .u8 (R.cur ts s).k, .string (R.str (R.cur ts s).s), .int .i64 (R.cur ts s).at_] 115)) := new_block hgL2 (by simp; omega)
      clear hgL2 IL2
      have qT7l : wL1.heap.size < wL2.heap.size := block_lt T7_L2.out
      have qT70 : wL2.cell? ⟨wL1.heap.size, 0, none⟩ = some (.int .u8 (R.cur ts s).k) := cell_of_block T7_L2.out
      have qT71 : wL2.cell? ⟨wL1.heap.size, 1, none⟩ = some (.string (R.str (R.cur ts s).s)) := cell_of_block T7_L2.out
      have qT72 : wL2.cell? ⟨wL1.heap.size, 2, none⟩ = some (.int .i64 (R.cur ts s).at_) := cell_of_block T7_L2.out
      go_wp2_with fail
      refine (ref_Upstream _ _ HU2.out).mono ?_
      rintro e wX ⟨rfl, hwX⟩
      rw [hwX]
      clear hwX wX
      rw [R.str_toList]
      go_wp2_with fail
      refine (ref_not (JL2.out.keep (World.grownBy_alloc _ _ _)) _ _ _ _ _).mono ?_
      rintro e wL3 ⟨rfl, IL3, hgL3⟩
      have JL3 : Hid _ := IL3
      have bL3 : rb < wL3.heap.size := block_lt JL3.out.rd
      have sL3 : wL2.heap.size + 1 ≤ wL3.heap.size := by have h := hgL3.size; simpa using h
      have GL3 : Hid (wL2.grownBy wL3 (some rb)) := (grown_trans (World.grownBy_alloc _ _ _) hgL3)
      have CL3 : Hid (w.grownBy wL3 (some rb)) := grown_trans CL2.out GL3.out
      have zL3 : w.heap.size ≤ wL3.heap.size := CL3.out.size
      have HO_L3 : Hid _ := own_kept HO_L2.out GL3.out (by omega)
      have T7_L3 : Hid (wL3.heap[wL1.heap.size]? = some (.cells #[.int .u8 (R.cur ts s).k, .string (R.str (R.cur ts s).s), .int .i64 (R.cur ts s).at_] 115)) := keep_block T7_L2.out GL3.out (by simp; omega)
      have T8_L3 : Hid (wL3.heap[wL2.heap.size]? = some (.cells #[.int .u8 (R.cur ts (R.kindS ts s 34)).k, .string (R.str (R.cur ts (R.kindS ts s 34)).s), .int .i64 (R.cur ts (R.kindS ts s 34)).at_] 115)) := new_block hgL3 (by simp; omega)
      clear hgL3 IL3
      have qal : wL1.heap.size < wL3.heap.size := block_lt T7_L3.out
      have qa0 : wL3.cell? ⟨wL1.heap.size, 0, none⟩ = some (.int .u8 (R.cur ts s).k) := cell_of_block T7_L3.out
      have qa1 : wL3.cell? ⟨wL1.heap.size, 1, none⟩ = some (.string (R.str (R.cur ts s).s)) := cell_of_block T7_L3.out
      have qa2 : wL3.cell? ⟨wL1.heap.size, 2, none⟩ = some (.int .i64 (R.cur ts s).at_) := cell_of_block T7_L3.out
      go_wp2_with fail
      refine (ref_not JL3.out _ _ _ _ _).mono ?_
      rintro e wL4 ⟨rfl, IL4, hgL4⟩
      have JL4 : Hid _ := IL4
      have bL4 : rb < wL4.heap.size := block_lt JL4.out.rd
      have sL4 : wL3.heap.size + 0 ≤ wL4.heap.size := by have h := hgL4.size; simpa using h
      have GL4 : Hid (wL3.grownBy wL4 (some rb)) := hgL4
      have CL4 : Hid (w.grownBy wL4 (some rb)) := grown_trans CL3.out GL4.out
      have zL4 : w.heap.size ≤ wL4.heap.size := CL4.out.size
      have HO_L4 : Hid _ := own_kept HO_L3.out GL4.out (by omega)
      have T7_L4 : Hid (wL4.heap[wL1.heap.size]? = some (.cells #[.int .u8 (R.cur ts s).k, .string (R.str (R.cur ts s).s), .int .i64 (R.cur ts s).at_] 115)) := keep_block T7_L3.out GL4.out (by simp; omega)
      have T8_L4 : Hid (wL4.heap[wL2.heap.size]? = some (.cells #[.int .u8 (R.cur ts (R.kindS ts s 34)).k, .string (R.str (R.cur ts (R.kindS ts s 34)).s), .int .i64 (R.cur ts (R.kindS ts s 34)).at_] 115)) := keep_block T8_L3.out GL4.out (by simp; omega)
      clear hgL4 IL4
      have qT8l : wL2.heap.size < wL4.heap.size := block_lt T8_L4.out
      have qT80 : wL4.cell? ⟨wL2.heap.size, 0, none⟩ = some (.int .u8 (R.cur ts (R.kindS ts s 34)).k) := cell_of_block T8_L4.out
      have qT81 : wL4.cell? ⟨wL2.heap.size, 1, none⟩ = some (.string (R.str (R.cur ts (R.kindS ts s 34)).s)) := cell_of_block T8_L4.out
      have qT82 : wL4.cell? ⟨wL2.heap.size, 2, none⟩ = some (.int .i64 (R.cur ts (R.kindS ts s 34)).at_) := cell_of_block T8_L4.out
      go_wp2_with fail
      refine (ref_number _ _ _ _ HW.out).mono ?_
      rintro e wL5 ⟨rfl, ggL5⟩
      have hgL5 := grown_wide ggL5 (some rb)
      have JL5 : Hid _ := (JL4.out).keep ggL5
      have bL5 : rb < wL5.heap.size := block_lt JL5.out.rd
      have sL5 : wL4.heap.size + 0 ≤ wL5.heap.size := by have h := hgL5.size; simpa using h
      have GL5 : Hid (wL4.grownBy wL5 (some rb)) := hgL5
      have CL5 : Hid (w.grownBy wL5 (some rb)) := grown_trans CL4.out GL5.out
      have zL5 : w.heap.size ≤ wL5.heap.size := CL5.out.size
      have HO_L5 : Hid _ := own_kept HO_L4.out GL5.out (by omega)
      have T7_L5 : Hid (wL5.heap[wL1.heap.size]? = some (.cells #[.int .u8 (R.cur ts s).k, .string (R.str (R.cur ts s).s), .int .i64 (R.cur ts s).at_] 115)) := keep_block T7_L4.out GL5.out (by simp; omega)
      have T8_L5 : Hid (wL5.heap[wL2.heap.size]? = some (.cells #[.int .u8 (R.cur ts (R.kindS ts s 34)).k, .string (R.str (R.cur ts (R.kindS ts s 34)).s), .int .i64 (R.cur ts (R.kindS ts s 34)).at_] 115)) := keep_block T8_L4.out GL5.out (by simp; omega)
      clear hgL5 ggL5
      rw [R.str_toList]
      have qbl : wL2.heap.size < wL5.heap.size := block_lt T8_L5.out
      have qb0 : wL5.cell? ⟨wL2.heap.size, 0, none⟩ = some (.int .u8 (R.cur ts (R.kindS ts s 34)).k) := cell_of_block T8_L5.out
      have qb1 : wL5.cell? ⟨wL2.heap.size, 1, none⟩ = some (.string (R.str (R.cur ts (R.kindS ts s 34)).s)) := cell_of_block T8_L5.out
      have qb2 : wL5.cell? ⟨wL2.heap.size, 2, none⟩ = some (.int .i64 (R.cur ts (R.kindS ts s 34)).at_) := cell_of_block T8_L5.out
      go_wp2_with fail
      refine (ref_not JL5.out _ _ _ _ _).mono ?_
      rintro e wL6 ⟨rfl, IL6, hgL6⟩
      have JL6 : Hid _ := IL6
      have bL6 : rb < wL6.heap.size := block_lt JL6.out.rd
      have sL6 : wL5.heap.size + 0 ≤ wL6.heap.size := by have h := hgL6.size; simpa using h
      have GL6 : Hid (wL5.grownBy wL6 (some rb)) := hgL6
      have CL6 : Hid (w.grownBy wL6 (some rb)) := grown_trans CL5.out GL6.out
      have zL6 : w.heap.size ≤ wL6.heap.size := CL6.out.size
      have HO_L6 : Hid _ := own_kept HO_L5.out GL6.out (by omega)
      have T7_L6 : Hid (wL6.heap[wL1.heap.size]? = some (.cells #[.int .u8 (R.cur ts s).k, .string (R.str (R.cur ts s).s), .int .i64 (R.cur ts s).at_] 115)) := keep_block T7_L5.out GL6.out (by simp; omega)
      have T8_L6 : Hid (wL6.heap[wL2.heap.size]? = some (.cells #[.int .u8 (R.cur ts (R.kindS ts s 34)).k, .string (R.str (R.cur ts (R.kindS ts s 34)).s), .int .i64 (R.cur ts (R.kindS ts s 34)).at_] 115)) := keep_block T8_L5.out GL6.out (by simp; omega)
      clear hgL6 IL6
      rw [← HRd1.out] at JL6
      generalize hnum : R.num (R.cur ts (R.kindS ts s 34)).s = num at *
      have qcl : wL1.heap.size < wL6.heap.size := block_lt T7_L6.out
      have qc0 : wL6.cell? ⟨wL1.heap.size, 0, none⟩ = some (.int .u8 (R.cur ts s).k) := cell_of_block T7_L6.out
      have qc1 : wL6.cell? ⟨wL1.heap.size, 1, none⟩ = some (.string (R.str (R.cur ts s).s)) := cell_of_block T7_L6.out
      have qc2 : wL6.cell? ⟨wL1.heap.size, 2, none⟩ = some (.int .i64 (R.cur ts s).at_) := cell_of_block T7_L6.out
      by_cases hpos : 0 < num
      · rw [if_pos hpos] at HRd2
        go_wp2_with (at_builtin; refine wpList_append_own _ rfl _ _ 123 rfl w.heap.size 183 i0 _ 2 24 Tryz.underlying123 hi hz0 hz1 hz2 rfl (by decide) _ _ _ rfl (World.ownsRow.alloc HO_L6.out _) ⟨wL6.heap.size, 0, none⟩ 1 1 [.string (R.str (R.cur ts s).s), .int .i64 num] rfl rfl ?c1 ?c2 ?c3 ?c4 ?c5 ?_)
        case c1 => exact cells_new _ #[_, _] _ _ (by simp)
        case c2 => intro u hu; simp at hu; rcases hu with rfl | rfl <;> rfl
        case c3 => unfold maxLen; omega
        case c4 => omega
        case c5 => have := CL6.out.size; simp; omega
        intro v9 w9 hown9 hgrow9 _
        have HO_9 : Hid (w9.ownsRow w.heap.size 183 2 v9 (acc ++ [((R.cur ts s).s, num)]).length (R.tgCells (acc ++ [((R.cur ts s).s, num)]))) := by rw [R.tgCells_snoc, List.length_append]; exact hown9
        have far : ∀ k, (u3 : Value).ownBlock = some k → w.heap.size ≤ k := fun k hk => (World.ownsRow.lt HO_L6.out k hk).1
        have J9 : Hid (RInv w9 rb g cap ts s5 H) := (JL6.out.keep (World.grownBy_alloc _ _ _)).away hgrow9 (fun k hk => by have h1 := far k hk; have h2 := H0.out.gl; exact ⟨by omega, by omega⟩)
        have C9 : Hid (w.grownBy w9 (some rb)) := grown_far (grown_trans CL6.out (World.grownBy_alloc _ _ _)) hgrow9 far
        have b9 : rb < w9.heap.size := block_lt J9.out.rd
        clear hown9 hgrow9 far
        go_wp2_with fail
        refine (ref_isS J9.out _).mono ?_
        rintro e wp1 ⟨rfl, ggp1⟩
        have hgp1 := grown_wide ggp1 (some rb)
        have Jp1 : Hid _ := (J9.out).keep ggp1
        have bp1 : rb < wp1.heap.size := block_lt Jp1.out.rd
        have sp1 : w9.heap.size + 0 ≤ wp1.heap.size := by have h := hgp1.size; simpa using h
        have Gp1 : Hid (w9.grownBy wp1 (some rb)) := hgp1
        have Cp1 : Hid (w.grownBy wp1 (some rb)) := grown_trans C9.out Gp1.out
        have zp1 : w.heap.size ≤ wp1.heap.size := Cp1.out.size
        have HO_p1 : Hid _ := own_kept HO_9.out Gp1.out (by omega)
        clear hgp1 ggp1
        cases hmore : R.isB s5 (R.cur ts s5) [44]
        · rw [if_neg (by rw [hmore]; simp)] at HL2
          go_wp2_with fail
          refine (ref_needS Jp1.out _).mono ?_
          rintro e wpn1 ⟨rfl, Ipn1, hgpn1⟩
          have Jpn1 : Hid _ := Ipn1
          have bpn1 : rb < wpn1.heap.size := block_lt Jpn1.out.rd
          have spn1 : wp1.heap.size + 0 ≤ wpn1.heap.size := by have h := hgpn1.size; simpa using h
          have Gpn1 : Hid (wp1.grownBy wpn1 (some rb)) := hgpn1
          have Cpn1 : Hid (w.grownBy wpn1 (some rb)) := grown_trans Cp1.out Gpn1.out
          have zpn1 : w.heap.size ≤ wpn1.heap.size := Cpn1.out.size
          have HO_pn1 : Hid _ := own_kept HO_p1.out Gpn1.out (by omega)
          clear hgpn1 Ipn1
          go_wp2
          go_ret
          exact ⟨_, rfl, by rw [HP.out, ← HL2.out]; exact Jpn1.out, Cpn1.out, by rw [HP.out, ← HL2.out, HRd2.out]; exact HO_pn1.out⟩
        · rw [if_pos (by rw [hmore])] at HL2
          have hny := R.needS_yes hmore
          go_wp2_with fail
          refine (ref_needS Jp1.out _).mono ?_
          rintro e wpy1 ⟨rfl, Ipy1, hgpy1⟩
          have Jpy1 : Hid _ := Ipy1
          have bpy1 : rb < wpy1.heap.size := block_lt Jpy1.out.rd
          have spy1 : wp1.heap.size + 0 ≤ wpy1.heap.size := by have h := hgpy1.size; simpa using h
          have Gpy1 : Hid (wp1.grownBy wpy1 (some rb)) := hgpy1
          have Cpy1 : Hid (w.grownBy wpy1 (some rb)) := grown_trans Cp1.out Gpy1.out
          have zpy1 : w.heap.size ≤ wpy1.heap.size := Cpy1.out.size
          have HO_py1 : Hid _ := own_kept HO_p1.out Gpy1.out (by omega)
          clear hgpy1 Ipy1
          rw [show (⟨#[44]⟩ : ByteArray).data.toList = [44] from rfl] at Jpy1
          go_wp2
          go_roundw
          case rel => exact ⟨i + 1, n, acc5, _, by go_num, by rw [hny]; simp; omega, Jpy1.out.lt, by rw [HRd2.out]; simp; omega, by rw [hny]; simp; omega, HL2, Jpy1, Cpy1, by rw [HRd2.out]; exact HO_py1.out⟩
          case measure => simp [intOf]; omega
      · rw [if_neg hpos] at HRd2
        go_wp2_with fail
        refine (ref_isS JL6.out _).mono ?_
        rintro e wz1 ⟨rfl, ggz1⟩
        have hgz1 := grown_wide ggz1 (some rb)
        have Jz1 : Hid _ := (JL6.out).keep ggz1
        have bz1 : rb < wz1.heap.size := block_lt Jz1.out.rd
        have sz1 : wL6.heap.size + 0 ≤ wz1.heap.size := by have h := hgz1.size; simpa using h
        have Gz1 : Hid (wL6.grownBy wz1 (some rb)) := hgz1
        have Cz1 : Hid (w.grownBy wz1 (some rb)) := grown_trans CL6.out Gz1.out
        have zz1 : w.heap.size ≤ wz1.heap.size := Cz1.out.size
        have HO_z1 : Hid _ := own_kept HO_L6.out Gz1.out (by omega)
        have T7_z1 : Hid (wz1.heap[wL1.heap.size]? = some (.cells #[.int .u8 (R.cur ts s).k, .string (R.str (R.cur ts s).s), .int .i64 (R.cur ts s).at_] 115)) := keep_block T7_L6.out Gz1.out (by simp; omega)
        have T8_z1 : Hid (wz1.heap[wL2.heap.size]? = some (.cells #[.int .u8 (R.cur ts (R.kindS ts s 34)).k, .string (R.str (R.cur ts (R.kindS ts s 34)).s), .int .i64 (R.cur ts (R.kindS ts s 34)).at_] 115)) := keep_block T8_L6.out Gz1.out (by simp; omega)
        clear hgz1 ggz1
        cases hmore : R.isB s5 (R.cur ts s5) [44]
        · rw [if_neg (by rw [hmore]; simp)] at HL2
          go_wp2_with fail
          refine (ref_needS Jz1.out _).mono ?_
          rintro e wzn1 ⟨rfl, Izn1, hgzn1⟩
          have Jzn1 : Hid _ := Izn1
          have bzn1 : rb < wzn1.heap.size := block_lt Jzn1.out.rd
          have szn1 : wz1.heap.size + 0 ≤ wzn1.heap.size := by have h := hgzn1.size; simpa using h
          have Gzn1 : Hid (wz1.grownBy wzn1 (some rb)) := hgzn1
          have Czn1 : Hid (w.grownBy wzn1 (some rb)) := grown_trans Cz1.out Gzn1.out
          have zzn1 : w.heap.size ≤ wzn1.heap.size := Czn1.out.size
          have HO_zn1 : Hid _ := own_kept HO_z1.out Gzn1.out (by omega)
          have T7_zn1 : Hid (wzn1.heap[wL1.heap.size]? = some (.cells #[.int .u8 (R.cur ts s).k, .string (R.str (R.cur ts s).s), .int .i64 (R.cur ts s).at_] 115)) := keep_block T7_z1.out Gzn1.out (by simp; omega)
          have T8_zn1 : Hid (wzn1.heap[wL2.heap.size]? = some (.cells #[.int .u8 (R.cur ts (R.kindS ts s 34)).k, .string (R.str (R.cur ts (R.kindS ts s 34)).s), .int .i64 (R.cur ts (R.kindS ts s 34)).at_] 115)) := keep_block T8_z1.out Gzn1.out (by simp; omega)
          clear hgzn1 Izn1
          go_wp2
          go_ret
          exact ⟨_, rfl, by rw [HP.out, ← HL2.out]; exact Jzn1.out, Czn1.out, by rw [HP.out, ← HL2.out, HRd2.out]; exact HO_zn1.out⟩
        · rw [if_pos (by rw [hmore])] at HL2
          have hny := R.needS_yes hmore
          go_wp2_with fail
          refine (ref_needS Jz1.out _).mono ?_
          rintro e wzy1 ⟨rfl, Izy1, hgzy1⟩
          have Jzy1 : Hid _ := Izy1
          have bzy1 : rb < wzy1.heap.size := block_lt Jzy1.out.rd
          have szy1 : wz1.heap.size + 0 ≤ wzy1.heap.size := by have h := hgzy1.size; simpa using h
          have Gzy1 : Hid (wz1.grownBy wzy1 (some rb)) := hgzy1
          have Czy1 : Hid (w.grownBy wzy1 (some rb)) := grown_trans Cz1.out Gzy1.out
          have zzy1 : w.heap.size ≤ wzy1.heap.size := Czy1.out.size
          have HO_zy1 : Hid _ := own_kept HO_z1.out Gzy1.out (by omega)
          have T7_zy1 : Hid (wzy1.heap[wL1.heap.size]? = some (.cells #[.int .u8 (R.cur ts s).k, .string (R.str (R.cur ts s).s), .int .i64 (R.cur ts s).at_] 115)) := keep_block T7_z1.out Gzy1.out (by simp; omega)
          have T8_zy1 : Hid (wzy1.heap[wL2.heap.size]? = some (.cells #[.int .u8 (R.cur ts (R.kindS ts s 34)).k, .string (R.str (R.cur ts (R.kindS ts s 34)).s), .int .i64 (R.cur ts (R.kindS ts s 34)).at_] 115)) := keep_block T8_z1.out Gzy1.out (by simp; omega)
          clear hgzy1 Izy1
          rw [show (⟨#[44]⟩ : ByteArray).data.toList = [44] from rfl] at Jzy1
          go_wp2
          go_roundw
          case rel => exact ⟨i + 1, n, acc5, _, by go_num, by rw [hny]; simp; omega, Jzy1.out.lt, by rw [HRd2.out]; omega, by rw [hny]; simp; omega, HL2, Jzy1, Czy1, by rw [HRd2.out]; exact HO_zy1.out⟩
          case measure => simp [intOf]; omega
    · rw [if_neg hb] at HL1
      have HL2 : Hid _ := HL1
      clear HL1 HL
      have HO_E0 : Hid _ := HO.out
      go_wp2_with fail
      refine (ref_needS IR.out _).mono ?_
      rintro e wE1 ⟨rfl, IE1, hgE1⟩
      have JE1 : Hid _ := IE1
      have bE1 : rb < wE1.heap.size := block_lt JE1.out.rd
      have sE1 : wr.heap.size + 0 ≤ wE1.heap.size := by have h := hgE1.size; simpa using h
      have GE1 : Hid (wr.grownBy wE1 (some rb)) := hgE1
      have CE1 : Hid (w.grownBy wE1 (some rb)) := grown_trans HR.out GE1.out
      have zE1 : w.heap.size ≤ wE1.heap.size := CE1.out.size
      have HO_E1 : Hid _ := own_kept HO_E0.out GE1.out (by omega)
      clear hgE1 IE1
      go_wp2
      go_ret
      exact ⟨_, rfl, by rw [HP.out, ← HL2.out]; exact JE1.out, CE1.out, by rw [HP.out, ← HL2.out]; exact HO_E1.out⟩

end Go.Proofs.YtfocdefchbnkpaaGreatDoor
