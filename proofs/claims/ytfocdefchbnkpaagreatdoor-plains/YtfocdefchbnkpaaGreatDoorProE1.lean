/- Strings, numbers and notes, as the program's reader takes them. -/
import Derived.Test.YtfocdefchbnkpaaGreatDoorProD0
namespace Go.Proofs.YtfocdefchbnkpaaGreatDoor
open Go.RowKit

theorem P.measure_three (l : List UInt8) (h : (P.measure l).2 = 3) : 2 ≤ (P.measure l).1 := by
  unfold P.measure at h ⊢
  match l with
  | [] => simp at h
  | c :: r =>
    simp only at h ⊢
    split
    · rename_i h1; rw [if_pos h1] at h; simp at h
    · rename_i h1
      rw [if_neg h1] at h
      split
      · rename_i h2
        rw [if_pos h2] at h
        unfold P.measureN at h; split at h <;> simp at h
      · rename_i h2
        rw [if_neg h2] at h
        split
        · rename_i h3
          rw [if_pos h3] at h
          unfold P.measureS at h ⊢
          split
          · rename_i h4; rw [if_pos h4] at h; simp at h
          · simp
        · rename_i h3
          rw [if_neg h3] at h
          split at h <;> simp at h
theorem P.tok_three (l : List UInt8) (p : Nat) (h : (P.tokenFrom l p).k = 3) : 2 ≤ (P.tokenFrom l p).raw.length := by
  unfold P.tokenFrom at h ⊢
  simp only at h ⊢
  have h1 := P.measure_three _ h
  have h2 := P.measure_le (l.drop (P.placeFrom l p))
  rw [List.length_take]; omega
theorem PInv.three {w : World} {rb : Nat} {s : ByteArray} {st : P.St} (h : PInv w rb s st) (hk : st.tok.k = 3) : 2 ≤ st.tok.raw.length := by
  obtain ⟨p, hp, e⟩ := h.tok
  rw [e] at hk ⊢
  exact P.tok_three _ _ hk

def P.strS (l : List UInt8) (st : P.St) : List UInt8 × P.St :=
  (if (P.passS l st (st.tok.k == 3)).broken then [] else (st.tok.raw.drop 1).take (st.tok.raw.length - 2), P.passS l st (st.tok.k == 3))

theorem ret_sn {a b : ByteArray} {c d : Int} (h : a = b) (h2 : c = d) : Ending.returned (.tuple #[.string a, .int .i64 c]) = .returned (.tuple #[.string b, .int .i64 d]) := by rw [h, h2]

set_option maxRecDepth 100000 in
set_option maxHeartbeats 1000000 in
theorem pro_takeString {w : World} {rb : Nat} {s : ByteArray} {st : P.St} (h : PInv w rb s st) :
    Calls Tryz.prog 266 #[.pointer (some ⟨rb, 0, none⟩)] w fun e w' => e = .returned (.tuple #[.string (R.str (P.strS s.data.toList st).1), .int .i64 st.tok.at_]) ∧ PInv w' rb s (P.strS s.data.toList st).2 ∧ w.grownBy w' (some rb) := by
  have c1 : w.cell? ⟨rb, 1, none⟩ = some (.int .i64 st.tok.k) := cell_of_block h.rd
  have c2 : w.cell? ⟨rb, 2, none⟩ = some (.int .i64 st.tok.at_) := cell_of_block h.rd
  have c3 : w.cell? ⟨rb, 3, none⟩ = some (.string (R.str st.tok.raw)) := cell_of_block h.rd
  have brb := block_lt h.rd
  have hbd := h.bd
  have hlen := h.len
  have hsz : (R.str st.tok.raw).size = st.tok.raw.length := R.str_size _
  have HS : Hid (P.strS s.data.toList st = (if (P.passS s.data.toList st (st.tok.k == 3)).broken then [] else (st.tok.raw.drop 1).take (st.tok.raw.length - 2), P.passS s.data.toList st (st.tok.k == 3))) := rfl
  have H3 : Hid ((P.passS s.data.toList st (st.tok.k == 3)).broken = false → 2 ≤ st.tok.raw.length) := fun hb => by
    apply h.three
    apply Classical.byContradiction; intro hk
    unfold P.passS at hb
    rw [if_neg (by intro c; exact hk (by simpa using c.1))] at hb
    simp at hb
  have H0 : Hid _ := h
  clear h
  go_enter Tryz.func266, Tryz.ntmps266
  go_wp2_with fail
  refine (pro_pass (H0.out.keep (World.grownBy_alloc _ _ _)) (st.tok.k == 3)).mono ?_
  rintro e w1 ⟨rfl, I1, hg1⟩
  have n1 := new_block hg1 (by simp; omega)
  have q1 : w1.cell? ⟨w.heap.size, 1, none⟩ = some (.int .i64 st.tok.at_) := cell_of_block n1
  have q2 : w1.cell? ⟨w.heap.size, 2, none⟩ = some (.string (R.str st.tok.raw)) := cell_of_block n1
  have HG : Hid (w.grownBy w1 (some rb)) := grown_trans (World.grownBy_alloc _ _ _) hg1
  have J1 : Hid _ := I1
  have H4 := H3.out
  clear n1 hg1 I1 H3
  generalize P.passS s.data.toList st (st.tok.k == 3) = st' at *
  cases hb : st'.broken
  · rw [hb] at HS
    simp only [Bool.false_eq_true, if_false] at HS
    have h2 := H4 hb
    clear H4 hb
    go_wp2
    go_region
    go_wp2
    go_ret2
    refine ⟨?_, by rw [HS.out]; exact J1.out.keep (grown_drew _), grown_trans HG.out (grown_wide (grown_drew _) _)⟩
    rw [HS.out]
    exact ret_sn (by rw [ext_str, R.str_toList, show st.tok.raw.length - 1 - 1 = st.tok.raw.length - 2 by omega]) rfl
  · rw [hb] at HS
    simp only [if_true] at HS
    clear H4 hb
    go_wp2
    go_region
    go_wp2
    go_ret2
    exact ⟨by rw [HS.out]; rfl, by rw [HS.out]; exact J1.out.keep (grown_drew _), grown_trans HG.out (grown_wide (grown_drew _) _)⟩

theorem R.num_dec : ∀ (l : List UInt8) (n : Nat), l.all (fun c => R.digitI c.toNat) = true → (n : Int) * 10 ^ l.length + 10 ^ l.length ≤ 1000000000000 → ∃ m : Nat, Lib.decFrom n l = some m ∧ l.foldl R.numStep n = m ∧ (m : Int) < (n + 1) * 10 ^ l.length := by
  intro l
  induction l with
  | nil => intro n _ _; exact ⟨n, rfl, rfl, by simp; omega⟩
  | cons c l ih =>
    intro n hd hb
    rw [List.all_cons, Bool.and_eq_true] at hd
    obtain ⟨h1, h2⟩ := hd
    unfold R.digitI at h1
    simp only [Bool.and_eq_true, decide_eq_true_eq] at h1
    rw [List.length_cons, Int.pow_succ] at hb
    have hp : (1 : Int) ≤ 10 ^ l.length := Int.pow_pos (by decide)
    have hdv : Lib.digitVal c = some (c.toNat - 48) := by unfold Lib.digitVal; rw [if_pos (by omega)]
    have hnb : (n : Int) ≤ 100000000000 := by
      have : (n : Int) * 10 ≤ n * (10 ^ l.length * 10) := by
        apply Int.mul_le_mul_of_nonneg_left <;> omega
      omega
    have hst : R.numStep n c = ((n * 10 + (c.toNat - 48) : Nat) : Int) := by
      unfold R.numStep
      have e1 : wrap64 (10 * (n : Int)) = 10 * n := IntWalk.wrap64_in _ ⟨by omega, by omega⟩
      rw [e1, show ((c.toNat : Int) - 48) % 256 = c.toNat - 48 by omega, IntWalk.wrap64_in _ ⟨by omega, by omega⟩]
      omega
    have hnn : ((n * 10 + (c.toNat - 48) : Nat) : Int) + 1 ≤ (n + 1) * 10 := by omega
    have hle : ((n * 10 + (c.toNat - 48) : Nat) : Int) * 10 ^ l.length + 10 ^ l.length ≤ (n + 1) * 10 * 10 ^ l.length := by
      have : (((n * 10 + (c.toNat - 48) : Nat) : Int) + 1) * 10 ^ l.length ≤ ((n + 1) * 10) * 10 ^ l.length := Int.mul_le_mul_of_nonneg_right hnn (by omega)
      rw [Int.add_mul, Int.one_mul] at this; exact this
    have hre : ((n : Int) + 1) * 10 * 10 ^ l.length = n * (10 ^ l.length * 10) + 10 ^ l.length * 10 := by
      rw [Int.mul_assoc, Int.mul_comm 10, Int.add_mul, Int.one_mul]
    obtain ⟨m, q1, q2, q3⟩ := ih (n * 10 + (c.toNat - 48)) h2 (by omega)
    refine ⟨m, ?_, ?_, ?_⟩
    · rw [Lib.decFrom, hdv]; exact q1
    · rw [List.foldl_cons, hst]; exact q2
    · rw [List.length_cons, Int.pow_succ]
      have hq : (((n * 10 + (c.toNat - 48) : Nat) : Int) + 1) * 10 ^ l.length ≤ (n + 1) * (10 ^ l.length * 10) := by
        rw [Int.add_mul, Int.one_mul]
        have : ((n : Int) + 1) * (10 ^ l.length * 10) = (n + 1) * 10 * 10 ^ l.length := by rw [Int.mul_assoc, Int.mul_comm 10]
        rw [this]; exact hle
      omega

/-- A short row of digits: the library reads what the document's loop reckons. -/
theorem P.atoi_num (l : List UInt8) (hl : l.length ≤ 5) (h1 : 1 ≤ l.length) (hd : l.all (fun c => R.digitI c.toNat) = true) : Lib.atoi l = some (R.num l) ∧ 0 ≤ R.num l ∧ R.num l ≤ 99999 := by
  have hp : (10 : Int) ^ l.length ≤ 100000 := by
    have : ∀ n : Fin 6, (10 : Int) ^ n.val ≤ 100000 := by decide
    exact this ⟨l.length, by omega⟩
  obtain ⟨m, q1, q2, q3⟩ := R.num_dec l 0 hd (by simp; omega)
  have hn : R.num l = m := q2
  refine ⟨?_, by omega, by simp at q3; omega⟩
  match l, h1 with
  | c :: r, _ =>
    have hc : R.digitI c.toNat = true := by rw [List.all_cons, Bool.and_eq_true] at hd; exact hd.1
    unfold R.digitI at hc
    simp only [Bool.and_eq_true, decide_eq_true_eq] at hc
    have n1 : (c == 45) = false := by rw [beq_eq_false_iff_ne]; intro e; subst e; exact absurd hc.1 (by decide)
    have n2 : (c == 43) = false := by rw [beq_eq_false_iff_ne]; intro e; subst e; exact absurd hc.1 (by decide)
    unfold Lib.atoi
    simp only
    rw [n1, n2]
    simp only [Bool.false_eq_true, if_false]
    unfold Lib.decNat
    simp only [List.isEmpty_cons, Bool.false_eq_true, if_false]
    rw [q1, hn]; rfl

theorem P.measure_two (l : List UInt8) (h : (P.measure l).2 = 2) : (P.measure l).1 = R.span R.digitI l ∧ 1 ≤ R.span R.digitI l ∧ R.span R.digitI l ≤ 5 := by
  unfold P.measure at h ⊢
  match l with
  | [] => simp at h
  | c :: r =>
    simp only at h ⊢
    split
    · rename_i h1; rw [if_pos h1] at h; simp at h
    · rename_i h1
      rw [if_neg h1] at h
      split
      · rename_i h2
        rw [if_pos h2] at h
        unfold P.measureN at h ⊢
        split
        · rename_i h3; rw [if_pos h3] at h; simp at h
        · rename_i h3
          exact ⟨rfl, by rw [R.span, if_pos h2]; omega, by omega⟩
      · rename_i h2
        rw [if_neg h2] at h
        split
        · rename_i h3
          rw [if_pos h3] at h
          unfold P.measureS at h; split at h <;> simp at h
        · rename_i h3
          rw [if_neg h3] at h
          split at h <;> simp at h
theorem R.span_take_all (p : Int → Bool) (l : List UInt8) : (l.take (R.span p l)).all (fun c => p c.toNat) = true := by
  induction l with
  | nil => rfl
  | cons c l ih =>
    rw [R.span]
    split
    · rename_i h; rw [List.take_succ_cons, List.all_cons, h, ih]; rfl
    · simp
theorem PInv.two {w : World} {rb : Nat} {s : ByteArray} {st : P.St} (h : PInv w rb s st) (hk : st.tok.k = 2) : st.tok.raw.length ≤ 5 ∧ Lib.atoi st.tok.raw = some (R.num st.tok.raw) ∧ 0 ≤ R.num st.tok.raw ∧ R.num st.tok.raw ≤ 99999 := by
  obtain ⟨p, hp, e⟩ := h.tok
  rw [e] at hk ⊢
  unfold P.tokenFrom at hk ⊢
  simp only at hk ⊢
  obtain ⟨h1, h2, h3⟩ := P.measure_two _ hk
  have h4 := P.measure_le (s.data.toList.drop (P.placeFrom s.data.toList p))
  rw [h1] at h4 ⊢
  have hl : ((s.data.toList.drop (P.placeFrom s.data.toList p)).take (R.span R.digitI (s.data.toList.drop (P.placeFrom s.data.toList p)))).length = R.span R.digitI (s.data.toList.drop (P.placeFrom s.data.toList p)) := by rw [List.length_take]; omega
  exact ⟨by rw [hl]; exact h3, P.atoi_num _ (by rw [hl]; exact h3) (by rw [hl]; exact h2) (R.span_take_all _ _)⟩

def P.numS (l : List UInt8) (st : P.St) : Int × P.St :=
  (if (P.passS l st (st.tok.k == 2)).broken then 0 else R.num st.tok.raw, P.passS l st (st.tok.k == 2))

theorem grown_bytes (w : World) (e : TypeId) (s : ByteArray) : w.grownBy (Lib.bytesWorld w e s) none :=
  ⟨rfl, rfl, rfl, by rw [Lib.bytesWorld_size]; omega, fun k hk _ => Lib.bytesWorld_at_old w e s k hk⟩

set_option maxRecDepth 100000 in
set_option maxHeartbeats 1000000 in
theorem pro_takeNumber {w : World} {rb : Nat} {s : ByteArray} {st : P.St} (h : PInv w rb s st) :
    Calls Tryz.prog 327 #[.pointer (some ⟨rb, 0, none⟩)] w fun e w' => e = .returned (.tuple #[.int .i64 (P.numS s.data.toList st).1, .int .i64 st.tok.at_]) ∧ PInv w' rb s (P.numS s.data.toList st).2 ∧ w.grownBy w' (some rb) ∧ 0 ≤ (P.numS s.data.toList st).1 ∧ (P.numS s.data.toList st).1 ≤ 99999 := by
  have c1 : w.cell? ⟨rb, 1, none⟩ = some (.int .i64 st.tok.k) := cell_of_block h.rd
  have c2 : w.cell? ⟨rb, 2, none⟩ = some (.int .i64 st.tok.at_) := cell_of_block h.rd
  have c3 : w.cell? ⟨rb, 3, none⟩ = some (.string (R.str st.tok.raw)) := cell_of_block h.rd
  have brb := block_lt h.rd
  have hlen := h.len
  have hbd := h.bd
  have HS : Hid (P.numS s.data.toList st = (if (P.passS s.data.toList st (st.tok.k == 2)).broken then 0 else R.num st.tok.raw, P.passS s.data.toList st (st.tok.k == 2))) := rfl
  have H3 : Hid ((P.passS s.data.toList st (st.tok.k == 2)).broken = false → st.tok.raw.length ≤ 5 ∧ Lib.atoi st.tok.raw = some (R.num st.tok.raw) ∧ 0 ≤ R.num st.tok.raw ∧ R.num st.tok.raw ≤ 99999) := fun hb => by
    apply h.two
    apply Classical.byContradiction; intro hk
    unfold P.passS at hb
    rw [if_neg (by intro c; exact hk (by simpa using c.1))] at hb
    simp at hb
  have H0 : Hid _ := h
  clear h
  go_enter Tryz.func327, Tryz.ntmps327
  go_wp2_with fail
  refine (pro_pass (H0.out.keep (World.grownBy_alloc _ _ _)) (st.tok.k == 2)).mono ?_
  rintro e w1 ⟨rfl, I1, hg1⟩
  have n1 := new_block hg1 (by simp; omega)
  have q1 : w1.cell? ⟨w.heap.size, 1, none⟩ = some (.int .i64 st.tok.at_) := cell_of_block n1
  have q2 : w1.cell? ⟨w.heap.size, 2, none⟩ = some (.string (R.str st.tok.raw)) := cell_of_block n1
  have HN : Hid _ := n1
  have HG : Hid (w.grownBy w1 (some rb)) := grown_trans (World.grownBy_alloc _ _ _) hg1
  have J1 : Hid _ := I1
  have H4 := H3.out
  clear n1 hg1 I1 H3
  generalize P.passS s.data.toList st (st.tok.k == 2) = st' at *
  cases hb : st'.broken
  · rw [hb] at HS
    simp only [Bool.false_eq_true, if_false] at HS
    obtain ⟨h5, ha, hn0, hn1⟩ := H4 hb
    have HA : Hid (∀ w, Calls Tryz.prog 236 #[.string (R.str st.tok.raw)] w fun e w' => e = .returned (.tuple #[.int .i64 (R.num st.tok.raw), .nilIface]) ∧ ∃ t, w' = Lib.bytesWorld w 5 t) := fun w =>
      Tryz.strconv_Atoi (R.str st.tok.raw) _ (by rw [R.str_size]; omega) (by rw [R.str_toList]; exact ha) w
    clear H4 hb ha
    go_wp2_with fail
    refine (HA.out _).mono ?_
    rintro e w2 ⟨rfl, t, hw2⟩
    have hg2 : w1.grownBy w2 none := by rw [hw2]; exact grown_bytes _ _ _
    have p1 : w2.cell? ⟨w.heap.size, 1, none⟩ = some (.int .i64 st.tok.at_) := cell_of_block (keep_block HN.out hg2 (by simp))
    have J2 : Hid _ := J1.out.keep hg2
    have HG2 : Hid _ := grown_trans HG.out (grown_wide hg2 _)
    clear hw2 hg2
    go_wp2
    go_region
    go_wp2
    go_ret2
    exact ⟨by rw [HS.out]; rfl, by rw [HS.out]; exact J2.out.keep (grown_drew _), grown_trans HG2.out (grown_wide (grown_drew _) _), by rw [HS.out]; exact hn0, by rw [HS.out]; exact hn1⟩
  · rw [hb] at HS
    simp only [if_true] at HS
    clear H4 hb
    go_wp2
    go_region
    go_wp2
    go_ret2
    exact ⟨by rw [HS.out]; rfl, by rw [HS.out]; exact J1.out.keep (grown_drew _), grown_trans HG.out (grown_wide (grown_drew _) _), by rw [HS.out]; exact Int.le_refl _, by rw [HS.out]; show (0 : Int) ≤ 99999; decide⟩

end Go.Proofs.YtfocdefchbnkpaaGreatDoor

/- Notes, as the program's reader keeps them. -/
namespace Go.Proofs.YtfocdefchbnkpaaGreatDoor
open Go.RowKit

def P.noteS (st : P.St) (e a : Int) : P.St :=
  if st.err = 0 ∨ a < st.fat ∨ (a = st.fat ∧ e < st.err) then { st with err := e, fat := a } else st
def P.noteIf (st : P.St) (b : Bool) (e a : Int) : P.St := if b then P.noteS st e a else st
def P.oneMore (st : P.St) (have_ most : Int) : P.St := P.noteIf st (decide (most ≤ have_)) 3 st.tok.at_

theorem PInv.noted {w w' : World} {rb : Nat} {s : ByteArray} {st : P.St} {e a : Int} (h : PInv w rb s st)
    (hr : w'.heap[rb]? = some (.cells #[.string s, .int .i64 st.tok.k, .int .i64 st.tok.at_, .string (R.str st.tok.raw), .bool st.broken, .int .i64 e, .int .i64 a] 204 (0, 0))) : PInv w' rb s { st with err := e, fat := a } :=
  ⟨hr, h.len, h.tok⟩

set_option maxRecDepth 100000 in
set_option maxHeartbeats 1000000 in
theorem pro_note {w : World} {rb : Nat} {s : ByteArray} {st : P.St} (h : PInv w rb s st) (e0 a0 : Int) :
    Calls Tryz.prog 324 #[.pointer (some ⟨rb, 0, none⟩), .int .i64 e0, .int .i64 a0] w fun e w' => e = .returned (.tuple #[]) ∧ PInv w' rb s (P.noteS st e0 a0) ∧ w.grownBy w' (some rb) := by
  have c5 : w.cell? ⟨rb, 5, none⟩ = some (.int .i64 st.err) := cell_of_block h.rd
  have c6 : w.cell? ⟨rb, 6, none⟩ = some (.int .i64 st.fat) := cell_of_block h.rd
  have f5 : w.frozen? ⟨rb, 5, none⟩ = false := frozen_of_block h.rd
  have f6 : w.frozen? ⟨rb, 6, none⟩ = false := frozen_of_block h.rd
  have brb := block_lt h.rd
  have hal : w.grownBy (w.alloc (.cells #[.int .i64 st.err, .int .i64 st.fat] 202)) none := World.grownBy_alloc _ _ _
  have H0 : Hid _ := h
  clear h
  have done : Hid (∀ w', w'.heap[rb]? = some (.cells #[.string s, .int .i64 st.tok.k, .int .i64 st.tok.at_, .string (R.str st.tok.raw), .bool st.broken, .int .i64 e0, .int .i64 a0] 204 (0, 0)) → PInv w' rb s { st with err := e0, fat := a0 }) := fun w' hr => H0.out.noted hr
  by_cases hE : st.err = 0
  · have HN : Hid (P.noteS st e0 a0 = { st with err := e0, fat := a0 }) := by show P.noteS _ _ _ = _; unfold P.noteS; rw [if_pos (Or.inl hE)]
    have g1 : (st.err == 0) = true := by rw [hE]; rfl
    clear hE
    go_enter Tryz.func324, Tryz.ntmps324
    go_wp2
    go_end0
    have hg2 : w.grownBy (((w.setCell ⟨rb, 5, none⟩ (.int .i64 e0)).setCell ⟨rb, 6, none⟩ (.int .i64 a0)).alloc (.cells #[.int .i64 st.err, .int .i64 st.fat] 202)) (some rb) := grown_trans (grown_trans (grown_setCell _ _ _ _) (grown_setCell _ _ _ _)) (World.grownBy_alloc _ _ _)
    refine ⟨rfl, ?_, hg2⟩
    rw [HN.out]
    apply done.out
    rw [Below.heap_alloc _ _ _ (by simp [World.setCell]; exact brb)]
    exact block_setCell (block_setCell H0.out.rd _) _
  · have g1 : (st.err == 0) = false := by rw [beq_eq_false_iff_ne]; exact hE
    by_cases ha : a0 < st.fat
    · have HN : Hid (P.noteS st e0 a0 = { st with err := e0, fat := a0 }) := by show P.noteS _ _ _ = _; unfold P.noteS; rw [if_pos (Or.inr (Or.inl ha))]
      clear hE
      go_enter Tryz.func324, Tryz.ntmps324
      go_wp2
      go_end0
      have hg2 : w.grownBy (((w.setCell ⟨rb, 5, none⟩ (.int .i64 e0)).setCell ⟨rb, 6, none⟩ (.int .i64 a0)).alloc (.cells #[.int .i64 st.err, .int .i64 st.fat] 202)) (some rb) := grown_trans (grown_trans (grown_setCell _ _ _ _) (grown_setCell _ _ _ _)) (World.grownBy_alloc _ _ _)
      refine ⟨rfl, ?_, hg2⟩
      rw [HN.out]
      apply done.out
      rw [Below.heap_alloc _ _ _ (by simp [World.setCell]; exact brb)]
      exact block_setCell (block_setCell H0.out.rd _) _
    · by_cases hq : a0 = st.fat
      · have g2 : (a0 == st.fat) = true := by rw [hq]; simp
        by_cases he : e0 < st.err
        · have HN : Hid (P.noteS st e0 a0 = { st with err := e0, fat := a0 }) := by show P.noteS _ _ _ = _; unfold P.noteS; rw [if_pos (Or.inr (Or.inr ⟨hq, he⟩))]
          clear hE hq
          go_enter Tryz.func324, Tryz.ntmps324
          go_wp2
          go_end0
          have hg2 : w.grownBy (((w.setCell ⟨rb, 5, none⟩ (.int .i64 e0)).setCell ⟨rb, 6, none⟩ (.int .i64 a0)).alloc (.cells #[.int .i64 st.err, .int .i64 st.fat] 202)) (some rb) := grown_trans (grown_trans (grown_setCell _ _ _ _) (grown_setCell _ _ _ _)) (World.grownBy_alloc _ _ _)
          refine ⟨rfl, ?_, hg2⟩
          rw [HN.out]
          apply done.out
          rw [Below.heap_alloc _ _ _ (by simp [World.setCell]; exact brb)]
          exact block_setCell (block_setCell H0.out.rd _) _
        · have HN : Hid (P.noteS st e0 a0 = st) := by show P.noteS _ _ _ = _; unfold P.noteS; rw [if_neg (by intro c; rcases c with c | c | c; exact hE c; exact ha c; exact he c.2)]
          clear hE hq
          go_enter Tryz.func324, Tryz.ntmps324
          go_wp2
          go_end0
          exact ⟨rfl, by rw [HN.out]; exact H0.out.keep hal, grown_wide hal _⟩
      · have g2 : (a0 == st.fat) = false := by rw [beq_eq_false_iff_ne]; exact hq
        have HN : Hid (P.noteS st e0 a0 = st) := by show P.noteS _ _ _ = _; unfold P.noteS; rw [if_neg (by intro c; rcases c with c | c | c; exact hE c; exact ha c; exact hq c.1)]
        clear hE hq
        go_enter Tryz.func324, Tryz.ntmps324
        go_wp2
        go_end0
        exact ⟨rfl, by rw [HN.out]; exact H0.out.keep hal, grown_wide hal _⟩

set_option maxRecDepth 100000 in
set_option maxHeartbeats 1000000 in
theorem pro_noteIf {w : World} {rb : Nat} {s : ByteArray} {st : P.St} (h : PInv w rb s st) (b : Bool) (e0 a0 : Int) :
    Calls Tryz.prog 265 #[.pointer (some ⟨rb, 0, none⟩), .bool b, .int .i64 e0, .int .i64 a0] w fun e w' => e = .returned (.tuple #[]) ∧ PInv w' rb s (P.noteIf st b e0 a0) ∧ w.grownBy w' (some rb) := by
  have HN : Hid (P.noteIf st b e0 a0 = if b then P.noteS st e0 a0 else st) := rfl
  have H0 : Hid _ := h
  clear h
  cases b
  · simp only [Bool.false_eq_true, if_false] at HN
    go_enter Tryz.func265, Tryz.ntmps265
    go_wp2
    go_end0
    exact ⟨rfl, by rw [HN.out]; exact H0.out, grown_refl _ _⟩
  · simp only [if_true] at HN
    go_enter Tryz.func265, Tryz.ntmps265
    go_wp2_with fail
    refine (pro_note H0.out _ _).mono ?_
    rintro e w1 ⟨rfl, I1, hg1⟩
    go_wp2
    go_end0
    exact ⟨rfl, by rw [HN.out]; exact I1, hg1⟩

set_option maxRecDepth 100000 in
set_option maxHeartbeats 1000000 in
theorem pro_oneMore {w : World} {rb : Nat} {s : ByteArray} {st : P.St} (h : PInv w rb s st) (n m : Int) :
    Calls Tryz.prog 205 #[.pointer (some ⟨rb, 0, none⟩), .int .i64 n, .int .i64 m] w fun e w' => e = .returned (.tuple #[]) ∧ PInv w' rb s (P.oneMore st n m) ∧ w.grownBy w' (some rb) := by
  have c2 : w.cell? ⟨rb, 2, none⟩ = some (.int .i64 st.tok.at_) := cell_of_block h.rd
  have HN : Hid (P.oneMore st n m = P.noteIf st (decide (m ≤ n)) 3 st.tok.at_) := rfl
  have H0 : Hid _ := h
  clear h
  go_enter Tryz.func205, Tryz.ntmps205
  go_wp2_with fail
  refine (pro_noteIf H0.out _ _ _).mono ?_
  rintro e w1 ⟨rfl, I1, hg1⟩
  go_wp2
  go_end0
  exact ⟨rfl, by rw [HN.out]; exact I1, hg1⟩

end Go.Proofs.YtfocdefchbnkpaaGreatDoor
