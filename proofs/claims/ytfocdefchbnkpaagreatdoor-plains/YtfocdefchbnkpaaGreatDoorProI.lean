/- Headers, values, paths and targets, as the program's reader reads them. -/
import Derived.Test.YtfocdefchbnkpaaGreatDoorProT
import Derived.Test.YtfocdefchbnkpaaGreatDoorProG
import Derived.Test.YtfocdefchbnkpaaGreatDoorRefI
namespace Go.Proofs.YtfocdefchbnkpaaGreatDoor
open Go.RowKit

theorem P.measure_26 (l : List UInt8) (h : (P.measure l).2 = 3) : (P.measure l).1 ≤ 26 := by
  unfold P.measure at h ⊢
  match l with
  | [] => simp at h
  | c :: r =>
    simp only at h ⊢
    split
    · rename_i h1; rw [if_pos h1] at h; simp at h
    · rename_i h1
      rw [if_neg h1] at h
      split
      · rename_i h2
        rw [if_pos h2] at h
        unfold P.measureN at h; split at h <;> simp at h
      · rename_i h2
        rw [if_neg h2] at h
        split
        · rename_i h3
          rw [if_pos h3] at h
          unfold P.measureS at h ⊢
          split
          · simp
          · rename_i h4
            unfold P.strBad at h4
            simp at h4 ⊢
            omega
        · rename_i h3
          rw [if_neg h3] at h
          split at h <;> simp at h
theorem P.strS_len {l : List UInt8} {st : P.St} (ht : ∃ p, st.tok = P.tokenFrom l p) : (P.strS l st).1.length ≤ 24 := by
  unfold P.strS
  simp only
  split
  · simp
  · rename_i hb
    have hk : st.tok.k = 3 := by
      apply Classical.byContradiction; intro hk
      apply hb
      unfold P.passS
      rw [if_neg (by intro c; exact hk (by simpa using c.1))]
    obtain ⟨p, e⟩ := ht
    have h26 : st.tok.raw.length ≤ 26 := by
      rw [e] at hk ⊢
      unfold P.tokenFrom at hk ⊢
      simp only at hk ⊢
      have := P.measure_26 _ hk
      rw [List.length_take]; omega
    rw [List.length_take, List.length_drop]; omega
theorem PInv.slen {w : World} {rb : Nat} {s : ByteArray} {st : P.St} (h : PInv w rb s st) : (R.str (P.strS s.data.toList st).1).size ≤ 24 := by
  rw [R.str_size]; apply P.strS_len; obtain ⟨p, _, e⟩ := h.tok; exact ⟨p, e⟩

/-- The library's one variable that is read. -/
def Glob (w : World) : Prop := ∃ m, w.cell? ⟨0, 0, none⟩ = some (.int .i64 m)
theorem Glob.keep {w w' : World} {row : Option Nat} (h : Glob w) (hg : w.grownBy w' row) (hr : row ≠ some 0) : Glob w' := by
  obtain ⟨m, h⟩ := h
  exact ⟨m, hg.cell h (by simpa using fun e => hr e.symm)⟩

set_option maxRecDepth 100000 in
set_option maxHeartbeats 2000000 in
theorem pro_header {w : World} {rb : Nat} {s : ByteArray} {st : P.St} (h : PInv w rb s st) :
    Calls Tryz.prog 331 #[.pointer (some ⟨rb, 0, none⟩)] w fun e w' => e = .returned (.tuple #[.string (R.str (P.headerS s.data.toList st).1), .int .i64 st.tok.at_]) ∧ PInv w' rb s (P.headerS s.data.toList st).2 ∧ w.grownBy w' (some rb) := by
  have HP : Hid (P.headerS s.data.toList st = (R.lower (P.strS s.data.toList st).1, P.noteIf (P.strS s.data.toList st).2 (!R.header (P.strS s.data.toList st).1 true) 4 st.tok.at_)) := rfl
  have H0 : Hid _ := h
  have brb : rb < w.heap.size := block_lt h.rd
  have HL : Hid ((R.str (P.strS s.data.toList st).1).size ≤ 1000000000000) := by have := h.slen; show _ ≤ _; omega
  clear h
  go_enter Tryz.func331, Tryz.ntmps331
  have C0 : Hid (w.grownBy w (some rb)) := grown_refl _ _
  go_wp2_with fail
  refine (pro_takeString H0.out).mono ?_
  rintro e w1 ⟨rfl, I1, hg1⟩
  have J1 : Hid _ := I1
  have b1 : rb < w1.heap.size := block_lt J1.out.rd
  have s1 : w.heap.size + 0 ≤ w1.heap.size := by have h := hg1.size; simpa using h
  have G1 : Hid (w.grownBy w1 (some rb)) := hg1
  have C1 : Hid (w.grownBy w1 (some rb)) := grown_trans C0.out G1.out
  have z1 : w.heap.size ≤ w1.heap.size := C1.out.size
  clear hg1 I1
  generalize P.strS s.data.toList st = q at *
  obtain ⟨str, st1⟩ := q
  simp only at J1 HP HL ⊢
  go_wp2_with fail
  refine (pro_IsHeader _ _ HL.out).mono ?_
  rintro e w2 ⟨rfl, gg2⟩
  have hg2 := grown_wide gg2 (some rb)
  have J2 : Hid _ := (J1.out).keep gg2
  have b2 : rb < w2.heap.size := block_lt J2.out.rd
  have s2 : w1.heap.size + 0 ≤ w2.heap.size := by have h := hg2.size; simpa using h
  have G2 : Hid (w1.grownBy w2 (some rb)) := hg2
  have C2 : Hid (w.grownBy w2 (some rb)) := grown_trans C1.out G2.out
  have z2 : w.heap.size ≤ w2.heap.size := C2.out.size
  clear hg2 gg2
  rw [R.str_toList]
  go_wp2_with fail
  refine (pro_noteIf J2.out _ _ _).mono ?_
  rintro e w3 ⟨rfl, I3, hg3⟩
  have J3 : Hid _ := I3
  have b3 : rb < w3.heap.size := block_lt J3.out.rd
  have s3 : w2.heap.size + 0 ≤ w3.heap.size := by have h := hg3.size; simpa using h
  have G3 : Hid (w2.grownBy w3 (some rb)) := hg3
  have C3 : Hid (w.grownBy w3 (some rb)) := grown_trans C2.out G3.out
  have z3 : w.heap.size ≤ w3.heap.size := C3.out.size
  clear hg3 I3
  go_wp2_with fail
  refine (pro_Small _ _ HL.out).mono ?_
  rintro e w4 ⟨rfl, gg4⟩
  have hg4 := grown_wide gg4 (some rb)
  have J4 : Hid _ := (J3.out).keep gg4
  have b4 : rb < w4.heap.size := block_lt J4.out.rd
  have s4 : w3.heap.size + 0 ≤ w4.heap.size := by have h := hg4.size; simpa using h
  have G4 : Hid (w3.grownBy w4 (some rb)) := hg4
  have C4 : Hid (w.grownBy w4 (some rb)) := grown_trans C3.out G4.out
  have z4 : w.heap.size ≤ w4.heap.size := C4.out.size
  clear hg4 gg4
  rw [R.str_toList]
  go_wp2
  go_ret2
  exact ⟨by rw [HP.out]; rfl, by rw [HP.out]; exact J4.out, C4.out⟩

set_option maxRecDepth 100000 in
set_option maxHeartbeats 2000000 in
theorem pro_value {w : World} {rb : Nat} {s : ByteArray} {st : P.St} (h : PInv w rb s st) :
    Calls Tryz.prog 332 #[.pointer (some ⟨rb, 0, none⟩)] w fun e w' => e = .returned (.string (R.str (P.valueS s.data.toList st).1)) ∧ PInv w' rb s (P.valueS s.data.toList st).2 ∧ w.grownBy w' (some rb) := by
  have HP : Hid (P.valueS s.data.toList st = ((P.strS s.data.toList (P.takeS s.data.toList st [61])).1, P.noteIf (P.strS s.data.toList (P.takeS s.data.toList st [61])).2 (!R.value (P.strS s.data.toList (P.takeS s.data.toList st [61])).1) 4 (P.takeS s.data.toList st [61]).tok.at_)) := rfl
  have H0 : Hid _ := h
  have brb : rb < w.heap.size := block_lt h.rd
  clear h
  go_enter Tryz.func332, Tryz.ntmps332
  have C0 : Hid (w.grownBy w (some rb)) := grown_refl _ _
  go_wp2_with fail
  refine (pro_take H0.out _).mono ?_
  rintro e w1 ⟨rfl, I1, hg1⟩
  have J1 : Hid _ := I1
  have b1 : rb < w1.heap.size := block_lt J1.out.rd
  have s1 : w.heap.size + 0 ≤ w1.heap.size := by have h := hg1.size; simpa using h
  have G1 : Hid (w.grownBy w1 (some rb)) := hg1
  have C1 : Hid (w.grownBy w1 (some rb)) := grown_trans C0.out G1.out
  have z1 : w.heap.size ≤ w1.heap.size := C1.out.size
  clear hg1 I1
  rw [show (⟨#[61]⟩ : ByteArray).data.toList = [61] from rfl] at J1
  generalize P.takeS s.data.toList st [61] = st0 at *
  have HL : Hid ((R.str (P.strS s.data.toList st0).1).size ≤ maxLen) := by have := J1.out.slen; show _ ≤ _; unfold maxLen; omega
  go_wp2_with fail
  refine (pro_takeString J1.out).mono ?_
  rintro e w2 ⟨rfl, I2, hg2⟩
  have J2 : Hid _ := I2
  have b2 : rb < w2.heap.size := block_lt J2.out.rd
  have s2 : w1.heap.size + 0 ≤ w2.heap.size := by have h := hg2.size; simpa using h
  have G2 : Hid (w1.grownBy w2 (some rb)) := hg2
  have C2 : Hid (w.grownBy w2 (some rb)) := grown_trans C1.out G2.out
  have z2 : w.heap.size ≤ w2.heap.size := C2.out.size
  clear hg2 I2
  generalize P.strS s.data.toList st0 = q at *
  obtain ⟨str, st1⟩ := q
  simp only at J2 HP HL ⊢
  go_wp2_with fail
  refine (pro_IsValue _ _ HL.out).mono ?_
  rintro e w3 ⟨rfl, gg3⟩
  have hg3 := grown_wide gg3 (some rb)
  have J3 : Hid _ := (J2.out).keep gg3
  have b3 : rb < w3.heap.size := block_lt J3.out.rd
  have s3 : w2.heap.size + 0 ≤ w3.heap.size := by have h := hg3.size; simpa using h
  have G3 : Hid (w2.grownBy w3 (some rb)) := hg3
  have C3 : Hid (w.grownBy w3 (some rb)) := grown_trans C2.out G3.out
  have z3 : w.heap.size ≤ w3.heap.size := C3.out.size
  clear hg3 gg3
  rw [R.str_toList]
  go_wp2_with fail
  refine (pro_noteIf J3.out _ _ _).mono ?_
  rintro e w4 ⟨rfl, I4, hg4⟩
  have J4 : Hid _ := I4
  have b4 : rb < w4.heap.size := block_lt J4.out.rd
  have s4 : w3.heap.size + 0 ≤ w4.heap.size := by have h := hg4.size; simpa using h
  have G4 : Hid (w3.grownBy w4 (some rb)) := hg4
  have C4 : Hid (w.grownBy w4 (some rb)) := grown_trans C3.out G4.out
  have z4 : w.heap.size ≤ w4.heap.size := C4.out.size
  clear hg4 I4
  go_wp2
  go_ret
  exact ⟨by rw [HP.out]; rfl, by rw [HP.out]; exact J4.out, C4.out⟩

set_option maxRecDepth 100000 in
set_option maxHeartbeats 2000000 in
theorem pro_path {w : World} {rb : Nat} {s : ByteArray} {st : P.St} (h : PInv w rb s st) (wd : ByteArray) :
    Calls Tryz.prog 271 #[.pointer (some ⟨rb, 0, none⟩), .string wd] w fun e w' => e = .returned (.string (R.str (P.pathS s.data.toList st wd.data.toList).1)) ∧ PInv w' rb s (P.pathS s.data.toList st wd.data.toList).2 ∧ w.grownBy w' (some rb) := by
  have HP : Hid (P.pathS s.data.toList st wd.data.toList = ((P.strS s.data.toList (P.takeS s.data.toList st wd.data.toList)).1, P.takeS s.data.toList (P.noteIf (P.strS s.data.toList (P.takeS s.data.toList st wd.data.toList)).2 (!R.path (P.strS s.data.toList (P.takeS s.data.toList st wd.data.toList)).1) 4 (P.takeS s.data.toList st wd.data.toList).tok.at_) [59])) := rfl
  have H0 : Hid _ := h
  have brb : rb < w.heap.size := block_lt h.rd
  clear h
  go_enter Tryz.func271, Tryz.ntmps271
  have C0 : Hid (w.grownBy w (some rb)) := grown_refl _ _
  go_wp2_with fail
  refine (pro_take H0.out _).mono ?_
  rintro e w1 ⟨rfl, I1, hg1⟩
  have J1 : Hid _ := I1
  have b1 : rb < w1.heap.size := block_lt J1.out.rd
  have s1 : w.heap.size + 0 ≤ w1.heap.size := by have h := hg1.size; simpa using h
  have G1 : Hid (w.grownBy w1 (some rb)) := hg1
  have C1 : Hid (w.grownBy w1 (some rb)) := grown_trans C0.out G1.out
  have z1 : w.heap.size ≤ w1.heap.size := C1.out.size
  clear hg1 I1
  generalize P.takeS s.data.toList st wd.data.toList = st0 at *
  have HL : Hid ((R.str (P.strS s.data.toList st0).1).size ≤ maxLen) := by have := J1.out.slen; show _ ≤ _; unfold maxLen; omega
  go_wp2_with fail
  refine (pro_takeString J1.out).mono ?_
  rintro e w2 ⟨rfl, I2, hg2⟩
  have J2 : Hid _ := I2
  have b2 : rb < w2.heap.size := block_lt J2.out.rd
  have s2 : w1.heap.size + 0 ≤ w2.heap.size := by have h := hg2.size; simpa using h
  have G2 : Hid (w1.grownBy w2 (some rb)) := hg2
  have C2 : Hid (w.grownBy w2 (some rb)) := grown_trans C1.out G2.out
  have z2 : w.heap.size ≤ w2.heap.size := C2.out.size
  clear hg2 I2
  generalize P.strS s.data.toList st0 = q at *
  obtain ⟨str, st1⟩ := q
  simp only at J2 HP HL ⊢
  go_wp2_with fail
  refine (pro_IsPath _ _ HL.out).mono ?_
  rintro e wX ⟨rfl, hwX⟩
  rw [hwX]
  clear hwX wX
  rw [R.str_toList]
  go_wp2_with fail
  refine (pro_noteIf J2.out _ _ _).mono ?_
  rintro e w3 ⟨rfl, I3, hg3⟩
  have J3 : Hid _ := I3
  have b3 : rb < w3.heap.size := block_lt J3.out.rd
  have s3 : w2.heap.size + 0 ≤ w3.heap.size := by have h := hg3.size; simpa using h
  have G3 : Hid (w2.grownBy w3 (some rb)) := hg3
  have C3 : Hid (w.grownBy w3 (some rb)) := grown_trans C2.out G3.out
  have z3 : w.heap.size ≤ w3.heap.size := C3.out.size
  clear hg3 I3
  go_wp2_with fail
  refine (pro_take J3.out _).mono ?_
  rintro e w4 ⟨rfl, I4, hg4⟩
  have J4 : Hid _ := I4
  have b4 : rb < w4.heap.size := block_lt J4.out.rd
  have s4 : w3.heap.size + 0 ≤ w4.heap.size := by have h := hg4.size; simpa using h
  have G4 : Hid (w3.grownBy w4 (some rb)) := hg4
  have C4 : Hid (w.grownBy w4 (some rb)) := grown_trans C3.out G4.out
  have z4 : w.heap.size ≤ w4.heap.size := C4.out.size
  clear hg4 I4
  go_wp2
  go_ret
  exact ⟨by rw [HP.out]; rfl, by rw [HP.out]; exact J4.out, C4.out⟩

set_option maxRecDepth 100000 in
set_option maxHeartbeats 2000000 in
theorem pro_target {w : World} {rb : Nat} {s : ByteArray} {st : P.St} (h : PInv w rb s st) (n : Nat) :
    Calls Tryz.prog 333 #[.pointer (some ⟨rb, 0, none⟩), .int .i64 n] w fun e w' => e = .returned (.agg #[.string (R.str (P.targetS s.data.toList st n).1.1), .int .i64 (P.targetS s.data.toList st n).1.2]) ∧ PInv w' rb s (P.targetS s.data.toList st n).2 ∧ w.grownBy w' (some rb) ∧ 0 ≤ (P.targetS s.data.toList st n).1.2 ∧ (P.targetS s.data.toList st n).1.2 ≤ 99999 := by
  have HP : Hid (P.targetS s.data.toList st n = (((P.targetA s.data.toList st n).1, (P.numS s.data.toList (P.targetA s.data.toList st n).2).1),
   P.noteIf (P.numS s.data.toList (P.targetA s.data.toList st n).2).2 (decide (1000 < (P.numS s.data.toList (P.targetA s.data.toList st n).2).1)) 4 (P.targetA s.data.toList st n).2.tok.at_)) := rfl
  have HA : Hid (P.targetA s.data.toList st n = ((P.strS s.data.toList (P.oneMore st n 4)).1, P.noteIf (P.strS s.data.toList (P.oneMore st n 4)).2 (!R.upstream (P.strS s.data.toList (P.oneMore st n 4)).1) 4 (P.oneMore st n 4).tok.at_)) := rfl
  have H0 : Hid _ := h
  have brb : rb < w.heap.size := block_lt h.rd
  clear h
  go_enter Tryz.func333, Tryz.ntmps333
  have C0 : Hid (w.grownBy w (some rb)) := grown_refl _ _
  go_wp2_with fail
  refine (pro_oneMore (H0.out.keep (World.grownBy_alloc _ _ _)) _ _).mono ?_
  rintro e w1 ⟨rfl, I1, hg1⟩
  have J1 : Hid _ := I1
  have b1 : rb < w1.heap.size := block_lt J1.out.rd
  have s1 : w.heap.size + 1 ≤ w1.heap.size := by have h := hg1.size; simpa using h
  have G1 : Hid (w.grownBy w1 (some rb)) := (grown_trans (World.grownBy_alloc _ _ _) hg1)
  have C1 : Hid (w.grownBy w1 (some rb)) := grown_trans C0.out G1.out
  have z1 : w.heap.size ≤ w1.heap.size := C1.out.size
  have RB_1 : Hid (w1.heap[w.heap.size]? = some (.cells #[.string ⟨#[]⟩, .int .i64 0] 285)) := new_block hg1 (by simp; omega)
  clear hg1 I1
  generalize P.oneMore st n 4 = st0 at *
  have HL : Hid ((R.str (P.strS s.data.toList st0).1).size ≤ maxLen) := by have := J1.out.slen; show _ ≤ _; unfold maxLen; omega
  go_wp2_with fail
  refine (pro_takeString J1.out).mono ?_
  rintro e w2 ⟨rfl, I2, hg2⟩
  have J2 : Hid _ := I2
  have b2 : rb < w2.heap.size := block_lt J2.out.rd
  have s2 : w1.heap.size + 0 ≤ w2.heap.size := by have h := hg2.size; simpa using h
  have G2 : Hid (w1.grownBy w2 (some rb)) := hg2
  have C2 : Hid (w.grownBy w2 (some rb)) := grown_trans C1.out G2.out
  have z2 : w.heap.size ≤ w2.heap.size := C2.out.size
  have RB_2 : Hid (w2.heap[w.heap.size]? = some (.cells #[.string ⟨#[]⟩, .int .i64 0] 285)) := keep_block RB_1.out G2.out (by simp; omega)
  clear hg2 I2
  generalize P.strS s.data.toList st0 = q at *
  obtain ⟨str, st1⟩ := q
  simp only at J2 HA HL ⊢
  go_wp2_with fail
  refine (pro_IsUpstream _ _ HL.out).mono ?_
  rintro e wX ⟨rfl, hwX⟩
  rw [hwX]
  clear hwX wX
  rw [R.str_toList]
  go_wp2_with fail
  refine (pro_noteIf J2.out _ _ _).mono ?_
  rintro e w3 ⟨rfl, I3, hg3⟩
  have J3 : Hid _ := I3
  have b3 : rb < w3.heap.size := block_lt J3.out.rd
  have s3 : w2.heap.size + 0 ≤ w3.heap.size := by have h := hg3.size; simpa using h
  have G3 : Hid (w2.grownBy w3 (some rb)) := hg3
  have C3 : Hid (w.grownBy w3 (some rb)) := grown_trans C2.out G3.out
  have z3 : w.heap.size ≤ w3.heap.size := C3.out.size
  have RB_3 : Hid (w3.heap[w.heap.size]? = some (.cells #[.string ⟨#[]⟩, .int .i64 0] 285)) := keep_block RB_2.out G3.out (by simp; omega)
  clear hg3 I3
  rw [HA.out] at HP
  simp only at HP
  generalize P.noteIf st1 (!R.upstream str) 4 st0.tok.at_ = st2 at *
  go_wp2_with fail
  refine (pro_takeNumber J3.out).mono ?_
  rintro e w4 ⟨rfl, I4, hg4, hn0, hn1⟩
  have J4 : Hid _ := I4
  have b4 : rb < w4.heap.size := block_lt J4.out.rd
  have s4 : w3.heap.size + 0 ≤ w4.heap.size := by have h := hg4.size; simpa using h
  have G4 : Hid (w3.grownBy w4 (some rb)) := hg4
  have C4 : Hid (w.grownBy w4 (some rb)) := grown_trans C3.out G4.out
  have z4 : w.heap.size ≤ w4.heap.size := C4.out.size
  have RB_4 : Hid (w4.heap[w.heap.size]? = some (.cells #[.string ⟨#[]⟩, .int .i64 0] 285)) := keep_block RB_3.out G4.out (by simp; omega)
  clear hg4 I4
  generalize P.numS s.data.toList st2 = q at *
  obtain ⟨num, st3⟩ := q
  simp only at J4 HP hn0 hn1 ⊢
  go_wp2_with fail
  refine (pro_noteIf J4.out _ _ _).mono ?_
  rintro e w5 ⟨rfl, I5, hg5⟩
  have J5 : Hid _ := I5
  have b5 : rb < w5.heap.size := block_lt J5.out.rd
  have s5 : w4.heap.size + 0 ≤ w5.heap.size := by have h := hg5.size; simpa using h
  have G5 : Hid (w4.grownBy w5 (some rb)) := hg5
  have C5 : Hid (w.grownBy w5 (some rb)) := grown_trans C4.out G5.out
  have z5 : w.heap.size ≤ w5.heap.size := C5.out.size
  have RB_5 : Hid (w5.heap[w.heap.size]? = some (.cells #[.string ⟨#[]⟩, .int .i64 0] 285)) := keep_block RB_4.out G5.out (by simp; omega)
  clear hg5 I5
  have qRBl : w.heap.size < w5.heap.size := block_lt RB_5.out
  have qRB0 : w5.cell? ⟨w.heap.size, 0, none⟩ = some (.string ⟨#[]⟩) := cell_of_block RB_5.out
  have qRBf0 : w5.frozen? ⟨w.heap.size, 0, none⟩ = false := frozen_of_block RB_5.out
  have qRB1 : w5.cell? ⟨w.heap.size, 1, none⟩ = some (.int .i64 0) := cell_of_block RB_5.out
  have qRBf1 : w5.frozen? ⟨w.heap.size, 1, none⟩ = false := frozen_of_block RB_5.out
  go_wp2
  have hs2 := grown_trans (grown_setCell w5 w.heap.size 0 (.string (R.str str))) (grown_setCell _ w.heap.size 1 (.int .i64 num))
  exact bodyPost_ret (v := .agg #[.string (R.str str), .int .i64 num]) (by simp [results, Tryz.results333, go_sem, qRB0, qRB1]) rfl ⟨by rw [HP.out], by rw [HP.out]; exact J5.out.other hs2 (by omega), grown_new C5.out hs2 (Nat.le_refl _), by rw [HP.out]; exact hn0, by rw [HP.out]; exact hn1⟩

end Go.Proofs.YtfocdefchbnkpaaGreatDoor

/- A header that a rule asks for, as the program's reader reads it. -/
namespace Go.Proofs.YtfocdefchbnkpaaGreatDoor
open Go.RowKit

def P.Mt.cells (m : P.Mt) : List Value := [.string (R.str m.name), .bool m.ask, .string (R.str m.val)]

set_option maxRecDepth 100000 in
set_option maxHeartbeats 2000000 in
theorem pro_match {w : World} {rb : Nat} {s : ByteArray} {st : P.St} (h : PInv w rb s st) (n : Nat) :
    Calls Tryz.prog 272 #[.pointer (some ⟨rb, 0, none⟩), .int .i64 n] w fun e w' => e = .returned (.agg (P.matchS s.data.toList st n).1.cells.toArray) ∧ PInv w' rb s (P.matchS s.data.toList st n).2 ∧ w.grownBy w' (some rb) := by
  have HP : Hid (P.matchS s.data.toList st n = (⟨(P.mtA s.data.toList st n).1, P.sees (P.mtA s.data.toList st n).2 [61], (P.mtB s.data.toList (P.mtA s.data.toList st n).2).1⟩, P.takeS s.data.toList (P.mtB s.data.toList (P.mtA s.data.toList st n).2).2 [59])) := rfl
  have HA : Hid (P.mtA s.data.toList st n = P.headerS s.data.toList (P.takeS s.data.toList (P.oneMore st n 3) R.wHeader)) := rfl
  have H0 : Hid _ := h
  have brb : rb < w.heap.size := block_lt h.rd
  clear h
  go_enter Tryz.func272, Tryz.ntmps272
  have C0 : Hid (w.grownBy w (some rb)) := grown_refl _ _
  go_wp2_with fail
  refine (pro_oneMore (H0.out.keep (World.grownBy_alloc _ _ _)) _ _).mono ?_
  rintro e w1 ⟨rfl, I1, hg1⟩
  have J1 : Hid _ := I1
  have b1 : rb < w1.heap.size := block_lt J1.out.rd
  have s1 : w.heap.size + 1 ≤ w1.heap.size := by have h := hg1.size; simpa using h
  have G1 : Hid (w.grownBy w1 (some rb)) := (grown_trans (World.grownBy_alloc _ _ _) hg1)
  have C1 : Hid (w.grownBy w1 (some rb)) := grown_trans C0.out G1.out
  have z1 : w.heap.size ≤ w1.heap.size := C1.out.size
  have RB_1 : Hid (w1.heap[w.heap.size]? = some (.cells #[.string ⟨#[]⟩, .bool false, .string ⟨#[]⟩] 276)) := new_block hg1 (by simp; omega)
  clear hg1 I1
  go_wp2_with fail
  refine (pro_take J1.out _).mono ?_
  rintro e w2 ⟨rfl, I2, hg2⟩
  have J2 : Hid _ := I2
  have b2 : rb < w2.heap.size := block_lt J2.out.rd
  have s2 : w1.heap.size + 0 ≤ w2.heap.size := by have h := hg2.size; simpa using h
  have G2 : Hid (w1.grownBy w2 (some rb)) := hg2
  have C2 : Hid (w.grownBy w2 (some rb)) := grown_trans C1.out G2.out
  have z2 : w.heap.size ≤ w2.heap.size := C2.out.size
  have RB_2 : Hid (w2.heap[w.heap.size]? = some (.cells #[.string ⟨#[]⟩, .bool false, .string ⟨#[]⟩] 276)) := keep_block RB_1.out G2.out (by simp; omega)
  clear hg2 I2
  rw [show (⟨#[104, 101, 97, 100, 101, 114]⟩ : ByteArray).data.toList = R.wHeader from rfl] at J2
  go_wp2_with fail
  refine (pro_header J2.out).mono ?_
  rintro e w3 ⟨rfl, I3, hg3⟩
  have J3 : Hid _ := I3
  have b3 : rb < w3.heap.size := block_lt J3.out.rd
  have s3 : w2.heap.size + 0 ≤ w3.heap.size := by have h := hg3.size; simpa using h
  have G3 : Hid (w2.grownBy w3 (some rb)) := hg3
  have C3 : Hid (w.grownBy w3 (some rb)) := grown_trans C2.out G3.out
  have z3 : w.heap.size ≤ w3.heap.size := C3.out.size
  have RB_3 : Hid (w3.heap[w.heap.size]? = some (.cells #[.string ⟨#[]⟩, .bool false, .string ⟨#[]⟩] 276)) := keep_block RB_2.out G3.out (by simp; omega)
  clear hg3 I3
  rw [← HA.out] at J3
  rw [← HA.out]
  clear HA
  generalize P.mtA s.data.toList st n = q at *
  obtain ⟨nm, st1⟩ := q
  simp only at J3 HP ⊢
  go_wp2_with fail
  refine (pro_sees (J3.out.keep (World.grownBy_alloc _ _ _)) _).mono ?_
  rintro e w4 ⟨rfl, gg4⟩
  have hg4 := grown_wide gg4 (some rb)
  have J4 : Hid _ := ((J3.out.keep (World.grownBy_alloc _ _ _))).keep gg4
  have b4 : rb < w4.heap.size := block_lt J4.out.rd
  have s4 : w3.heap.size + 1 ≤ w4.heap.size := by have h := hg4.size; simpa using h
  have G4 : Hid (w3.grownBy w4 (some rb)) := (grown_trans (World.grownBy_alloc _ _ _) hg4)
  have C4 : Hid (w.grownBy w4 (some rb)) := grown_trans C3.out G4.out
  have z4 : w.heap.size ≤ w4.heap.size := C4.out.size
  have RB_4 : Hid (w4.heap[w.heap.size]? = some (.cells #[.string ⟨#[]⟩, .bool false, .string ⟨#[]⟩] 276)) := keep_block RB_3.out G4.out (by simp; omega)
  have MB_4 : Hid (w4.heap[w3.heap.size]? = some (.cells #[.string (R.str nm), .bool false, .string ⟨#[]⟩] 276)) := new_block hg4 (by simp; omega)
  clear hg4 gg4
  rw [show (⟨#[61]⟩ : ByteArray).data.toList = [61] from rfl]
  have HB : Hid (P.mtB s.data.toList st1 = if P.sees st1 [61] then P.valueS s.data.toList st1 else ([], st1)) := rfl
  generalize P.mtB s.data.toList st1 = pb at *
  obtain ⟨vl, st2⟩ := pb
  simp only at HP
  have qMBl : w3.heap.size < w4.heap.size := block_lt MB_4.out
  have qMB0 : w4.cell? ⟨w3.heap.size, 0, none⟩ = some (.string (R.str nm)) := cell_of_block MB_4.out
  have qMBf0 : w4.frozen? ⟨w3.heap.size, 0, none⟩ = false := frozen_of_block MB_4.out
  have qMB1 : w4.cell? ⟨w3.heap.size, 1, none⟩ = some (.bool false) := cell_of_block MB_4.out
  have qMBf1 : w4.frozen? ⟨w3.heap.size, 1, none⟩ = false := frozen_of_block MB_4.out
  have qMB2 : w4.cell? ⟨w3.heap.size, 2, none⟩ = some (.string ⟨#[]⟩) := cell_of_block MB_4.out
  have qMBf2 : w4.frozen? ⟨w3.heap.size, 2, none⟩ = false := frozen_of_block MB_4.out
  cases hask : P.sees st1 [61]
  · rw [hask] at HB
    simp only [Bool.false_eq_true, if_false] at HB
    have HV : Hid (vl = []) := (Prod.mk.inj HB.out).1
    have HS : Hid (st2 = st1) := (Prod.mk.inj HB.out).2
    rw [HV.out, HS.out] at HP
    go_wp2_with fail
    refine (pro_take J4.out _).mono ?_
    rintro e wn1 ⟨rfl, In1, hgn1⟩
    have Jn1 : Hid _ := In1
    have bn1 : rb < wn1.heap.size := block_lt Jn1.out.rd
    have sn1 : w4.heap.size + 0 ≤ wn1.heap.size := by have h := hgn1.size; simpa using h
    have Gn1 : Hid (w4.grownBy wn1 (some rb)) := hgn1
    have Cn1 : Hid (w.grownBy wn1 (some rb)) := grown_trans C4.out Gn1.out
    have zn1 : w.heap.size ≤ wn1.heap.size := Cn1.out.size
    have RB_n1 : Hid (wn1.heap[w.heap.size]? = some (.cells #[.string ⟨#[]⟩, .bool false, .string ⟨#[]⟩] 276)) := keep_block RB_4.out Gn1.out (by simp; omega)
    have MB_n1 : Hid (wn1.heap[w3.heap.size]? = some (.cells #[.string (R.str nm), .bool false, .string ⟨#[]⟩] 276)) := keep_block MB_4.out Gn1.out (by simp; omega)
    clear hgn1 In1
    have qml : w3.heap.size < wn1.heap.size := block_lt MB_n1.out
    have qm0 : wn1.cell? ⟨w3.heap.size, 0, none⟩ = some (.string (R.str nm)) := cell_of_block MB_n1.out
    have qm1 : wn1.cell? ⟨w3.heap.size, 1, none⟩ = some (.bool false) := cell_of_block MB_n1.out
    have qm2 : wn1.cell? ⟨w3.heap.size, 2, none⟩ = some (.string ⟨#[]⟩) := cell_of_block MB_n1.out
    have qrl : w.heap.size < wn1.heap.size := block_lt RB_n1.out
    have qr0 : wn1.cell? ⟨w.heap.size, 0, none⟩ = some (.string ⟨#[]⟩) := cell_of_block RB_n1.out
    have qrf0 : wn1.frozen? ⟨w.heap.size, 0, none⟩ = false := frozen_of_block RB_n1.out
    have qr1 : wn1.cell? ⟨w.heap.size, 1, none⟩ = some (.bool false) := cell_of_block RB_n1.out
    have qrf1 : wn1.frozen? ⟨w.heap.size, 1, none⟩ = false := frozen_of_block RB_n1.out
    have qr2 : wn1.cell? ⟨w.heap.size, 2, none⟩ = some (.string ⟨#[]⟩) := cell_of_block RB_n1.out
    have qrf2 : wn1.frozen? ⟨w.heap.size, 2, none⟩ = false := frozen_of_block RB_n1.out
    go_wp2
    have hs3 := grown_trans (grown_trans (grown_setCell wn1 w.heap.size 0 (.string (R.str nm))) (grown_setCell _ w.heap.size 1 (.bool false))) (grown_setCell _ w.heap.size 2 (.string ⟨#[]⟩))
    exact bodyPost_ret (v := .agg #[.string (R.str nm), .bool false, .string ⟨#[]⟩]) (by simp [results, Tryz.results272, go_sem, qr0, qr1, qr2]) rfl ⟨by rw [HP.out, hask]; rfl, by rw [HP.out]; exact Jn1.out.other hs3 (by omega), grown_new Cn1.out hs3 (Nat.le_refl _)⟩
  · rw [hask] at HB
    simp only [if_true] at HB
    have HV : Hid ((P.valueS s.data.toList st1).1 = vl) := by rw [← HB.out]; rfl
    have HS : Hid ((P.valueS s.data.toList st1).2 = st2) := by rw [← HB.out]; rfl
    go_wp2_with fail
    have Jy1 : Hid _ := J4.out.other (grown_setCell w4 w3.heap.size 1 (.bool true)) (by omega)
    have Cy1 : Hid (w.grownBy (World.setCell w4 ⟨w3.heap.size, 1, none⟩ (.bool true)) (some rb)) := grown_new C4.out (grown_setCell w4 w3.heap.size 1 (.bool true)) (by omega)
    have RB_y1 : Hid ((World.setCell w4 ⟨w3.heap.size, 1, none⟩ (.bool true)).heap[w.heap.size]? = some (.cells #[.string ⟨#[]⟩, .bool false, .string ⟨#[]⟩] 276)) := keep_block RB_4.out (grown_setCell w4 w3.heap.size 1 (.bool true)) (by simp; omega)
    have MB_y1 : Hid ((World.setCell w4 ⟨w3.heap.size, 1, none⟩ (.bool true)).heap[w3.heap.size]? = some (.cells #[.string (R.str nm), .bool true, .string ⟨#[]⟩] 276)) := block_setCell MB_4.out (.bool true)
    have sy1 : w4.heap.size ≤ (World.setCell w4 ⟨w3.heap.size, 1, none⟩ (.bool true)).heap.size := by simp [World.setCell]
    have yy1 : (World.setCell w4 ⟨w3.heap.size, 1, none⟩ (.bool true)).heap.size ≤ w4.heap.size := by simp [World.setCell]
    generalize (World.setCell w4 ⟨w3.heap.size, 1, none⟩ (.bool true)) = wy1 at *
    have by1 : rb < wy1.heap.size := by omega
    refine (pro_value Jy1.out).mono ?_
    rintro e wy2 ⟨rfl, Iy2, hgy2⟩
    have Jy2 : Hid _ := Iy2
    have by2 : rb < wy2.heap.size := block_lt Jy2.out.rd
    have sy2 : wy1.heap.size + 0 ≤ wy2.heap.size := by have h := hgy2.size; simpa using h
    have Gy2 : Hid (wy1.grownBy wy2 (some rb)) := hgy2
    have Cy2 : Hid (w.grownBy wy2 (some rb)) := grown_trans Cy1.out Gy2.out
    have zy2 : w.heap.size ≤ wy2.heap.size := Cy2.out.size
    have RB_y2 : Hid (wy2.heap[w.heap.size]? = some (.cells #[.string ⟨#[]⟩, .bool false, .string ⟨#[]⟩] 276)) := keep_block RB_y1.out Gy2.out (by simp; omega)
    have MB_y2 : Hid (wy2.heap[w3.heap.size]? = some (.cells #[.string (R.str nm), .bool true, .string ⟨#[]⟩] 276)) := keep_block MB_y1.out Gy2.out (by simp; omega)
    clear hgy2 Iy2
    rw [HS.out] at Jy2
    rw [HV.out]
    have qvl : w3.heap.size < wy2.heap.size := block_lt MB_y2.out
    have qv0 : wy2.cell? ⟨w3.heap.size, 0, none⟩ = some (.string (R.str nm)) := cell_of_block MB_y2.out
    have qvf0 : wy2.frozen? ⟨w3.heap.size, 0, none⟩ = false := frozen_of_block MB_y2.out
    have qv1 : wy2.cell? ⟨w3.heap.size, 1, none⟩ = some (.bool true) := cell_of_block MB_y2.out
    have qvf1 : wy2.frozen? ⟨w3.heap.size, 1, none⟩ = false := frozen_of_block MB_y2.out
    have qv2 : wy2.cell? ⟨w3.heap.size, 2, none⟩ = some (.string ⟨#[]⟩) := cell_of_block MB_y2.out
    have qvf2 : wy2.frozen? ⟨w3.heap.size, 2, none⟩ = false := frozen_of_block MB_y2.out
    go_wp2_with fail
    have Jy3 : Hid _ := Jy2.out.other (grown_setCell wy2 w3.heap.size 2 (.string (R.str vl))) (by omega)
    have Cy3 : Hid (w.grownBy (World.setCell wy2 ⟨w3.heap.size, 2, none⟩ (.string (R.str vl))) (some rb)) := grown_new Cy2.out (grown_setCell wy2 w3.heap.size 2 (.string (R.str vl))) (by omega)
    have RB_y3 : Hid ((World.setCell wy2 ⟨w3.heap.size, 2, none⟩ (.string (R.str vl))).heap[w.heap.size]? = some (.cells #[.string ⟨#[]⟩, .bool false, .string ⟨#[]⟩] 276)) := keep_block RB_y2.out (grown_setCell wy2 w3.heap.size 2 (.string (R.str vl))) (by simp; omega)
    have MB_y3 : Hid ((World.setCell wy2 ⟨w3.heap.size, 2, none⟩ (.string (R.str vl))).heap[w3.heap.size]? = some (.cells #[.string (R.str nm), .bool true, .string (R.str vl)] 276)) := block_setCell MB_y2.out (.string (R.str vl))
    have sy3 : wy2.heap.size ≤ (World.setCell wy2 ⟨w3.heap.size, 2, none⟩ (.string (R.str vl))).heap.size := by simp [World.setCell]
    have yy3 : (World.setCell wy2 ⟨w3.heap.size, 2, none⟩ (.string (R.str vl))).heap.size ≤ wy2.heap.size := by simp [World.setCell]
    generalize (World.setCell wy2 ⟨w3.heap.size, 2, none⟩ (.string (R.str vl))) = wy3 at *
    have by3 : rb < wy3.heap.size := by omega
    refine (pro_take Jy3.out _).mono ?_
    rintro e wy4 ⟨rfl, Iy4, hgy4⟩
    have Jy4 : Hid _ := Iy4
    have by4 : rb < wy4.heap.size := block_lt Jy4.out.rd
    have sy4 : wy3.heap.size + 0 ≤ wy4.heap.size := by have h := hgy4.size; simpa using h
    have Gy4 : Hid (wy3.grownBy wy4 (some rb)) := hgy4
    have Cy4 : Hid (w.grownBy wy4 (some rb)) := grown_trans Cy3.out Gy4.out
    have zy4 : w.heap.size ≤ wy4.heap.size := Cy4.out.size
    have RB_y4 : Hid (wy4.heap[w.heap.size]? = some (.cells #[.string ⟨#[]⟩, .bool false, .string ⟨#[]⟩] 276)) := keep_block RB_y3.out Gy4.out (by simp; omega)
    have MB_y4 : Hid (wy4.heap[w3.heap.size]? = some (.cells #[.string (R.str nm), .bool true, .string (R.str vl)] 276)) := keep_block MB_y3.out Gy4.out (by simp; omega)
    clear hgy4 Iy4
    have qml : w3.heap.size < wy4.heap.size := block_lt MB_y4.out
    have qm0 : wy4.cell? ⟨w3.heap.size, 0, none⟩ = some (.string (R.str nm)) := cell_of_block MB_y4.out
    have qm1 : wy4.cell? ⟨w3.heap.size, 1, none⟩ = some (.bool true) := cell_of_block MB_y4.out
    have qm2 : wy4.cell? ⟨w3.heap.size, 2, none⟩ = some (.string (R.str vl)) := cell_of_block MB_y4.out
    have qrl : w.heap.size < wy4.heap.size := block_lt RB_y4.out
    have qr0 : wy4.cell? ⟨w.heap.size, 0, none⟩ = some (.string ⟨#[]⟩) := cell_of_block RB_y4.out
    have qrf0 : wy4.frozen? ⟨w.heap.size, 0, none⟩ = false := frozen_of_block RB_y4.out
    have qr1 : wy4.cell? ⟨w.heap.size, 1, none⟩ = some (.bool false) := cell_of_block RB_y4.out
    have qrf1 : wy4.frozen? ⟨w.heap.size, 1, none⟩ = false := frozen_of_block RB_y4.out
    have qr2 : wy4.cell? ⟨w.heap.size, 2, none⟩ = some (.string ⟨#[]⟩) := cell_of_block RB_y4.out
    have qrf2 : wy4.frozen? ⟨w.heap.size, 2, none⟩ = false := frozen_of_block RB_y4.out
    go_wp2
    have hs3 := grown_trans (grown_trans (grown_setCell wy4 w.heap.size 0 (.string (R.str nm))) (grown_setCell _ w.heap.size 1 (.bool true))) (grown_setCell _ w.heap.size 2 (.string (R.str vl)))
    exact bodyPost_ret (v := .agg #[.string (R.str nm), .bool true, .string (R.str vl)]) (by simp [results, Tryz.results272, go_sem, qr0, qr1, qr2]) rfl ⟨by rw [HP.out, hask]; rfl, by rw [HP.out]; exact Jy4.out.other hs3 (by omega), grown_new Cy4.out hs3 (Nat.le_refl _)⟩

end Go.Proofs.YtfocdefchbnkpaaGreatDoor

/- Closures that look for one that is the same. -/
namespace Go.Proofs.YtfocdefchbnkpaaGreatDoor
open Go.RowKit

set_option maxRecDepth 100000 in
set_option maxHeartbeats 2000000 in
theorem pro_same_set (b : Nat) (hd : ByteArray) (y : Value) (nm : ByteArray) (w : World) (hc : w.cell? ⟨b, 0, none⟩ = some (.string hd)) :
    Calls Tryz.prog 382 #[.agg #[.string nm, y], .pointer (some ⟨b, 0, none⟩)] w fun e w' => e = .returned (.bool (nm.toList == hd.toList)) ∧ w.grownBy w' none := by
  have hb := World.block_lt_of_cell? w _ hc
  go_enter Tryz.func382, Tryz.ntmps382
  go_wp2
  go_ret
  exact ⟨rfl, World.grownBy_alloc _ _ _⟩

set_option maxRecDepth 100000 in
set_option maxHeartbeats 2000000 in
theorem pro_same_host (b : Nat) (hd : ByteArray) (y : Value) (nm : ByteArray) (w : World) (hc : w.cell? ⟨b, 0, none⟩ = some (.string hd)) :
    Calls Tryz.prog 267 #[.agg #[.string nm, y], .pointer (some ⟨b, 0, none⟩)] w fun e w' => e = .returned (.bool (nm.toList == hd.toList)) ∧ w.grownBy w' none := by
  have hb := World.block_lt_of_cell? w _ hc
  go_enter Tryz.func267, Tryz.ntmps267
  go_wp2
  go_ret
  exact ⟨rfl, World.grownBy_alloc _ _ _⟩

set_option maxRecDepth 100000 in
set_option maxHeartbeats 2000000 in
theorem pro_same_rule (b : Nat) (n m : Int) (y1 y2 y3 y4 y5 y6 : Value) (w : World) (hc : w.cell? ⟨b, 0, none⟩ = some (.int .i64 n)) :
    Calls Tryz.prog 328 #[.agg #[.int .i64 m, y1, y2, y3, y4, y5, y6], .pointer (some ⟨b, 0, none⟩)] w fun e w' => e = .returned (.bool (m == n)) ∧ w.grownBy w' none := by
  have hb := World.block_lt_of_cell? w _ hc
  go_enter Tryz.func328, Tryz.ntmps328
  go_wp2
  go_ret
  exact ⟨rfl, World.grownBy_alloc _ _ _⟩

/-- Whether one of the first cells of a row's elements is such, and where the first one is. -/
def firstAt (p : Nat → Bool) : Nat → Nat → Int
  | 0, _ => -1
  | n + 1, k => if p k then k else firstAt p n (k + 1)

theorem firstAt_any (p : Nat → Bool) (l : List Bool) : ∀ (n k : Nat), (∀ j, j < n → l[j]? = some (p (k + j))) → l.length = n → decide (0 ≤ firstAt p n k) = l.any id := by
  induction l with
  | nil => intro n k _ hl; simp at hl; subst hl; rfl
  | cons a l ih =>
    intro n k h hl
    match n, hl with
    | n + 1, hl =>
      have h0 := h 0 (by omega)
      simp at h0
      rw [firstAt, List.any_cons]
      subst h0
      cases hp : p k
      · simp only [Bool.false_eq_true, if_false, id, Bool.false_or]
        exact ih n (k + 1) (fun j hj => by have := h (j + 1) (by omega); rw [List.getElem?_cons_succ] at this; rw [this]; congr 2; omega) (by simpa using hl)
      · simp only [if_true, id, Bool.true_or]; exact decide_eq_true (Int.natCast_nonneg _)


set_option maxRecDepth 100000 in
set_option maxHeartbeats 2000000 in
theorem pro_IndexFunc_set (b : Nat) (hd : ByteArray) (w : World) (g n c : Nat) (nms : Nat → ByteArray) (y1 : Nat → Value) (hn : n ≤ 2000000000000) (hc : w.cell? ⟨b, 0, none⟩ = some (.string hd))
    (h0 : ∀ k, k < n → w.cell? ⟨g, k * 2, none⟩ = some (.string (nms k))) (g1 : ∀ k, k < n → w.cell? ⟨g, k * 2 + 1, none⟩ = some (y1 k)) :
    Calls Tryz.prog 413 #[.slice (some ⟨g, 0, none⟩) n c, .func (.func 382) #[] #[.pointer (some ⟨b, 0, none⟩)]] w fun e w' => e = .returned (.int .i64 (firstAt (fun k => (nms k).toList == hd.toList) n 0)) ∧ w.grownBy w' none := by
  have H0 : Hid _ := h0
  have G1 : Hid _ := g1
  have HC : Hid _ := hc
  clear h0 g1 hc
  go_enter Tryz.func413, Tryz.ntmps413
  go_wp2
  go_loopw [8] (fun iv wr => ∃ k : Nat, k ≤ n ∧ iv = .int .i64 k ∧ Hid (firstAt (fun k => (nms k).toList == hd.toList) n 0 = firstAt (fun k => (nms k).toList == hd.toList) (n - k) k) ∧ Hid (w.grownBy wr none)) (fun iv _ => n - (intOf iv).toNat)
  case atStart => exact ⟨0, Nat.zero_le _, rfl, rfl, grown_refl _ _⟩
  case round =>
    obtain ⟨k, hk, rfl, HF, HG⟩ := hrel
    by_cases hlt : k < n
    · have c0 := HG.out.cell (H0.out k hlt) (by simp)
      have c1 := HG.out.cell (G1.out k hlt) (by simp)
      have HF2 : Hid (firstAt (fun k => (nms k).toList == hd.toList) n 0 = if ((nms k).toList == hd.toList) = true then (k : Int) else firstAt (fun k => (nms k).toList == hd.toList) (n - (k + 1)) (k + 1)) := by
        show _ = _
        rw [HF.out, show n - k = (n - (k + 1)) + 1 by omega, firstAt]
      have HS : Hid _ := fun (w' : World) (h : wr.grownBy w' none) => pro_same_set b hd (y1 k) (nms k) w' (h.cell (HG.out.cell HC.out (by simp)) (by simp))
      clear HF
      cases hb : (nms k).toList == hd.toList
      · rw [hb] at HF2 HS
        simp only [Bool.false_eq_true, if_false] at HF2
        clear hb
        go_wp2_with fail
        refine (HS.out _ (grown_refl _ _)).mono ?_
        rintro e w1 ⟨rfl, hg⟩
        have HG2 : Hid _ := grown_trans HG.out hg
        clear hg
        go_wp2
        exact ⟨⟨k + 1, by omega, by go_num, HF2, HG2⟩, by simp [intOf]; omega⟩
      · rw [hb] at HF2 HS
        simp only [if_true] at HF2
        clear hb
        go_wp2_with fail
        refine (HS.out _ (grown_refl _ _)).mono ?_
        rintro e w1 ⟨rfl, hg⟩
        have HG2 : Hid _ := grown_trans HG.out hg
        clear hg
        go_wp2
        go_ret
        exact ⟨by rw [HF2.out]; rfl, HG2.out⟩
    · have hke : k = n := by omega
      subst hke
      rw [Nat.sub_self, firstAt] at HF
      go_wp2
      go_ret
      exact ⟨by rw [HF.out]; rfl, HG.out⟩

set_option maxRecDepth 100000 in
set_option maxHeartbeats 2000000 in
theorem pro_ContainsFunc_set (b : Nat) (hd : ByteArray) (w : World) (v : Value) (l : List (ByteArray)) (css : List (List Value)) (hv : w.ownsRow 0 280 2 v l.length css.flatten) (hn : l.length ≤ 2000000000000) (hc : w.cell? ⟨b, 0, none⟩ = some (.string hd))
    (h0 : ∀ k (hk : k < l.length), ∀ j, j < 2 → ∃ x, css.flatten[k * 2 + j]? = some x ∧ (j = 0 → x = .string l[k])) :
    Calls Tryz.prog 383 #[v, .func (.func 382) #[] #[.pointer (some ⟨b, 0, none⟩)]] w fun e w' => e = .returned (.bool (l.any fun x => x.toList == hd.toList)) ∧ w.grownBy w' none := by
  by_cases hz : l = []
  · subst hz
    obtain ⟨a, c, rfl⟩ := len_row hv
    clear h0 hv
    go_enter Tryz.func383, Tryz.ntmps383
    go_wp2
    go_loopw [8] (fun iv wr => iv = .int .i64 0 ∧ wr = w) (fun _ _ => 0)
    case atStart => exact ⟨rfl, rfl⟩
    case round =>
      obtain ⟨rfl, rfl⟩ := hrel
      go_wp2
      go_ret
      exact ⟨rfl, grown_refl _ _⟩
  · have hpos : 0 < l.length := List.length_pos_iff.2 hz
    obtain ⟨g, cap, rfl, _, _⟩ := World.ownsRow.form hv hpos
    have hcell : ∀ k (hk : k < l.length) j, j < 2 → w.cell? ⟨g, k * 2 + j, none⟩ = css.flatten[k * 2 + j]? := fun k hk j hj => World.ownsRow.cellAt hv (k * 2 + j) (by omega)
    have hI := pro_IndexFunc_set b hd w g l.length cap (fun k => l[k]?.getD ⟨#[]⟩) (fun k => css.flatten[k * 2 + 1]?.getD undef) hn hc
      (fun k hk => by
        obtain ⟨x, h1, h2⟩ := h0 k hk 0 (by omega)
        have := hcell k hk 0 (by omega)
        rw [Nat.add_zero] at this h1
        rw [this, h1, h2 rfl, List.getElem?_eq_getElem hk]; rfl)
      (fun k hk => by obtain ⟨x, h1, _⟩ := h0 k hk 1 (by omega); rw [hcell k hk 1 (by omega), h1]; rfl)
    have HA : Hid (decide (0 ≤ firstAt (fun k => (l[k]?.getD ⟨#[]⟩).toList == hd.toList) l.length 0) = l.any fun x => x.toList == hd.toList) := by
      show _ = _
      rw [firstAt_any _ (l.map fun x => x.toList == hd.toList) l.length 0 (fun j hj => by rw [List.getElem?_map, List.getElem?_eq_getElem hj, Nat.zero_add, List.getElem?_eq_getElem hj]; rfl) (by simp), List.any_map]; rfl
    have HI : Hid _ := fun (_ : Unit) => hI
    clear hI h0 hv hcell hc
    generalize firstAt (fun k => (l[k]?.getD ⟨#[]⟩).toList == hd.toList) l.length 0 = ix at *
    go_enter Tryz.func383, Tryz.ntmps383
    go_wp2_with fail
    refine (HI.out ()).mono ?_
    rintro e w1 ⟨rfl, hg⟩
    go_wp2
    go_ret
    exact ⟨ret_bool HA.out, hg⟩

set_option maxRecDepth 100000 in
set_option maxHeartbeats 2000000 in
theorem pro_IndexFunc_host (b : Nat) (hd : ByteArray) (w : World) (g n c : Nat) (nms : Nat → ByteArray) (y1 : Nat → Value) (hn : n ≤ 2000000000000) (hc : w.cell? ⟨b, 0, none⟩ = some (.string hd))
    (h0 : ∀ k, k < n → w.cell? ⟨g, k * 2, none⟩ = some (.string (nms k))) (g1 : ∀ k, k < n → w.cell? ⟨g, k * 2 + 1, none⟩ = some (y1 k)) :
    Calls Tryz.prog 326 #[.slice (some ⟨g, 0, none⟩) n c, .func (.func 267) #[] #[.pointer (some ⟨b, 0, none⟩)]] w fun e w' => e = .returned (.int .i64 (firstAt (fun k => (nms k).toList == hd.toList) n 0)) ∧ w.grownBy w' none := by
  have H0 : Hid _ := h0
  have G1 : Hid _ := g1
  have HC : Hid _ := hc
  clear h0 g1 hc
  go_enter Tryz.func326, Tryz.ntmps326
  go_wp2
  go_loopw [8] (fun iv wr => ∃ k : Nat, k ≤ n ∧ iv = .int .i64 k ∧ Hid (firstAt (fun k => (nms k).toList == hd.toList) n 0 = firstAt (fun k => (nms k).toList == hd.toList) (n - k) k) ∧ Hid (w.grownBy wr none)) (fun iv _ => n - (intOf iv).toNat)
  case atStart => exact ⟨0, Nat.zero_le _, rfl, rfl, grown_refl _ _⟩
  case round =>
    obtain ⟨k, hk, rfl, HF, HG⟩ := hrel
    by_cases hlt : k < n
    · have c0 := HG.out.cell (H0.out k hlt) (by simp)
      have c1 := HG.out.cell (G1.out k hlt) (by simp)
      have HF2 : Hid (firstAt (fun k => (nms k).toList == hd.toList) n 0 = if ((nms k).toList == hd.toList) = true then (k : Int) else firstAt (fun k => (nms k).toList == hd.toList) (n - (k + 1)) (k + 1)) := by
        show _ = _
        rw [HF.out, show n - k = (n - (k + 1)) + 1 by omega, firstAt]
      have HS : Hid _ := fun (w' : World) (h : wr.grownBy w' none) => pro_same_host b hd (y1 k) (nms k) w' (h.cell (HG.out.cell HC.out (by simp)) (by simp))
      clear HF
      cases hb : (nms k).toList == hd.toList
      · rw [hb] at HF2 HS
        simp only [Bool.false_eq_true, if_false] at HF2
        clear hb
        go_wp2_with fail
        refine (HS.out _ (grown_refl _ _)).mono ?_
        rintro e w1 ⟨rfl, hg⟩
        have HG2 : Hid _ := grown_trans HG.out hg
        clear hg
        go_wp2
        exact ⟨⟨k + 1, by omega, by go_num, HF2, HG2⟩, by simp [intOf]; omega⟩
      · rw [hb] at HF2 HS
        simp only [if_true] at HF2
        clear hb
        go_wp2_with fail
        refine (HS.out _ (grown_refl _ _)).mono ?_
        rintro e w1 ⟨rfl, hg⟩
        have HG2 : Hid _ := grown_trans HG.out hg
        clear hg
        go_wp2
        go_ret
        exact ⟨by rw [HF2.out]; rfl, HG2.out⟩
    · have hke : k = n := by omega
      subst hke
      rw [Nat.sub_self, firstAt] at HF
      go_wp2
      go_ret
      exact ⟨by rw [HF.out]; rfl, HG.out⟩

set_option maxRecDepth 100000 in
set_option maxHeartbeats 2000000 in
theorem pro_ContainsFunc_host (b : Nat) (hd : ByteArray) (w : World) (v : Value) (l : List (ByteArray)) (css : List (List Value)) (hv : w.ownsRow 0 146 2 v l.length css.flatten) (hn : l.length ≤ 2000000000000) (hc : w.cell? ⟨b, 0, none⟩ = some (.string hd))
    (h0 : ∀ k (hk : k < l.length), ∀ j, j < 2 → ∃ x, css.flatten[k * 2 + j]? = some x ∧ (j = 0 → x = .string l[k])) :
    Calls Tryz.prog 269 #[v, .func (.func 267) #[] #[.pointer (some ⟨b, 0, none⟩)]] w fun e w' => e = .returned (.bool (l.any fun x => x.toList == hd.toList)) ∧ w.grownBy w' none := by
  by_cases hz : l = []
  · subst hz
    obtain ⟨a, c, rfl⟩ := len_row hv
    clear h0 hv
    go_enter Tryz.func269, Tryz.ntmps269
    go_wp2
    go_loopw [8] (fun iv wr => iv = .int .i64 0 ∧ wr = w) (fun _ _ => 0)
    case atStart => exact ⟨rfl, rfl⟩
    case round =>
      obtain ⟨rfl, rfl⟩ := hrel
      go_wp2
      go_ret
      exact ⟨rfl, grown_refl _ _⟩
  · have hpos : 0 < l.length := List.length_pos_iff.2 hz
    obtain ⟨g, cap, rfl, _, _⟩ := World.ownsRow.form hv hpos
    have hcell : ∀ k (hk : k < l.length) j, j < 2 → w.cell? ⟨g, k * 2 + j, none⟩ = css.flatten[k * 2 + j]? := fun k hk j hj => World.ownsRow.cellAt hv (k * 2 + j) (by omega)
    have hI := pro_IndexFunc_host b hd w g l.length cap (fun k => l[k]?.getD ⟨#[]⟩) (fun k => css.flatten[k * 2 + 1]?.getD undef) hn hc
      (fun k hk => by
        obtain ⟨x, h1, h2⟩ := h0 k hk 0 (by omega)
        have := hcell k hk 0 (by omega)
        rw [Nat.add_zero] at this h1
        rw [this, h1, h2 rfl, List.getElem?_eq_getElem hk]; rfl)
      (fun k hk => by obtain ⟨x, h1, _⟩ := h0 k hk 1 (by omega); rw [hcell k hk 1 (by omega), h1]; rfl)
    have HA : Hid (decide (0 ≤ firstAt (fun k => (l[k]?.getD ⟨#[]⟩).toList == hd.toList) l.length 0) = l.any fun x => x.toList == hd.toList) := by
      show _ = _
      rw [firstAt_any _ (l.map fun x => x.toList == hd.toList) l.length 0 (fun j hj => by rw [List.getElem?_map, List.getElem?_eq_getElem hj, Nat.zero_add, List.getElem?_eq_getElem hj]; rfl) (by simp), List.any_map]; rfl
    have HI : Hid _ := fun (_ : Unit) => hI
    clear hI h0 hv hcell hc
    generalize firstAt (fun k => (l[k]?.getD ⟨#[]⟩).toList == hd.toList) l.length 0 = ix at *
    go_enter Tryz.func269, Tryz.ntmps269
    go_wp2_with fail
    refine (HI.out ()).mono ?_
    rintro e w1 ⟨rfl, hg⟩
    go_wp2
    go_ret
    exact ⟨ret_bool HA.out, hg⟩

set_option maxRecDepth 100000 in
set_option maxHeartbeats 2000000 in
theorem pro_IndexFunc_rule (b : Nat) (hd : Int) (w : World) (g n c : Nat) (nms : Nat → Int) (y1 y2 y3 y4 y5 y6 : Nat → Value) (hn : n ≤ 2000000000000) (hc : w.cell? ⟨b, 0, none⟩ = some (.int .i64 hd))
    (h0 : ∀ k, k < n → w.cell? ⟨g, k * 7, none⟩ = some (.int .i64 (nms k))) (g1 : ∀ k, k < n → w.cell? ⟨g, k * 7 + 1, none⟩ = some (y1 k)) (g2 : ∀ k, k < n → w.cell? ⟨g, k * 7 + 2, none⟩ = some (y2 k)) (g3 : ∀ k, k < n → w.cell? ⟨g, k * 7 + 3, none⟩ = some (y3 k)) (g4 : ∀ k, k < n → w.cell? ⟨g, k * 7 + 4, none⟩ = some (y4 k)) (g5 : ∀ k, k < n → w.cell? ⟨g, k * 7 + 5, none⟩ = some (y5 k)) (g6 : ∀ k, k < n → w.cell? ⟨g, k * 7 + 6, none⟩ = some (y6 k)) :
    Calls Tryz.prog 376 #[.slice (some ⟨g, 0, none⟩) n c, .func (.func 328) #[] #[.pointer (some ⟨b, 0, none⟩)]] w fun e w' => e = .returned (.int .i64 (firstAt (fun k => nms k == hd) n 0)) ∧ w.grownBy w' none := by
  have H0 : Hid _ := h0
  have G1 : Hid _ := g1
  have G2 : Hid _ := g2
  have G3 : Hid _ := g3
  have G4 : Hid _ := g4
  have G5 : Hid _ := g5
  have G6 : Hid _ := g6
  have HC : Hid _ := hc
  clear h0 g1 g2 g3 g4 g5 g6 hc
  go_enter Tryz.func376, Tryz.ntmps376
  go_wp2
  go_loopw [8] (fun iv wr => ∃ k : Nat, k ≤ n ∧ iv = .int .i64 k ∧ Hid (firstAt (fun k => nms k == hd) n 0 = firstAt (fun k => nms k == hd) (n - k) k) ∧ Hid (w.grownBy wr none)) (fun iv _ => n - (intOf iv).toNat)
  case atStart => exact ⟨0, Nat.zero_le _, rfl, rfl, grown_refl _ _⟩
  case round =>
    obtain ⟨k, hk, rfl, HF, HG⟩ := hrel
    by_cases hlt : k < n
    · have c0 := HG.out.cell (H0.out k hlt) (by simp)
      have c1 := HG.out.cell (G1.out k hlt) (by simp)
      have c2 := HG.out.cell (G2.out k hlt) (by simp)
      have c3 := HG.out.cell (G3.out k hlt) (by simp)
      have c4 := HG.out.cell (G4.out k hlt) (by simp)
      have c5 := HG.out.cell (G5.out k hlt) (by simp)
      have c6 := HG.out.cell (G6.out k hlt) (by simp)
      have HF2 : Hid (firstAt (fun k => nms k == hd) n 0 = if (nms k == hd) = true then (k : Int) else firstAt (fun k => nms k == hd) (n - (k + 1)) (k + 1)) := by
        show _ = _
        rw [HF.out, show n - k = (n - (k + 1)) + 1 by omega, firstAt]
      have HS : Hid _ := fun (w' : World) (h : wr.grownBy w' none) => pro_same_rule b hd (nms k) (y1 k) (y2 k) (y3 k) (y4 k) (y5 k) (y6 k) w' (h.cell (HG.out.cell HC.out (by simp)) (by simp))
      clear HF
      cases hb : nms k == hd
      · rw [hb] at HF2 HS
        simp only [Bool.false_eq_true, if_false] at HF2
        clear hb
        go_wp2_with fail
        refine (HS.out _ (grown_refl _ _)).mono ?_
        rintro e w1 ⟨rfl, hg⟩
        have HG2 : Hid _ := grown_trans HG.out hg
        clear hg
        go_wp2
        exact ⟨⟨k + 1, by omega, by go_num, HF2, HG2⟩, by simp [intOf]; omega⟩
      · rw [hb] at HF2 HS
        simp only [if_true] at HF2
        clear hb
        go_wp2_with fail
        refine (HS.out _ (grown_refl _ _)).mono ?_
        rintro e w1 ⟨rfl, hg⟩
        have HG2 : Hid _ := grown_trans HG.out hg
        clear hg
        go_wp2
        go_ret
        exact ⟨by rw [HF2.out]; rfl, HG2.out⟩
    · have hke : k = n := by omega
      subst hke
      rw [Nat.sub_self, firstAt] at HF
      go_wp2
      go_ret
      exact ⟨by rw [HF.out]; rfl, HG.out⟩

set_option maxRecDepth 100000 in
set_option maxHeartbeats 2000000 in
theorem pro_ContainsFunc_rule (b : Nat) (hd : Int) (w : World) (v : Value) (l : List (Int)) (css : List (List Value)) (hv : w.ownsRow 0 213 7 v l.length css.flatten) (hn : l.length ≤ 2000000000000) (hc : w.cell? ⟨b, 0, none⟩ = some (.int .i64 hd))
    (h0 : ∀ k (hk : k < l.length), ∀ j, j < 7 → ∃ x, css.flatten[k * 7 + j]? = some x ∧ (j = 0 → x = .int .i64 l[k])) :
    Calls Tryz.prog 329 #[v, .func (.func 328) #[] #[.pointer (some ⟨b, 0, none⟩)]] w fun e w' => e = .returned (.bool (l.any fun x => x == hd)) ∧ w.grownBy w' none := by
  by_cases hz : l = []
  · subst hz
    obtain ⟨a, c, rfl⟩ := len_row hv
    clear h0 hv
    go_enter Tryz.func329, Tryz.ntmps329
    go_wp2
    go_loopw [8] (fun iv wr => iv = .int .i64 0 ∧ wr = w) (fun _ _ => 0)
    case atStart => exact ⟨rfl, rfl⟩
    case round =>
      obtain ⟨rfl, rfl⟩ := hrel
      go_wp2
      go_ret
      exact ⟨rfl, grown_refl _ _⟩
  · have hpos : 0 < l.length := List.length_pos_iff.2 hz
    obtain ⟨g, cap, rfl, _, _⟩ := World.ownsRow.form hv hpos
    have hcell : ∀ k (hk : k < l.length) j, j < 7 → w.cell? ⟨g, k * 7 + j, none⟩ = css.flatten[k * 7 + j]? := fun k hk j hj => World.ownsRow.cellAt hv (k * 7 + j) (by omega)
    have hI := pro_IndexFunc_rule b hd w g l.length cap (fun k => l[k]?.getD 0) (fun k => css.flatten[k * 7 + 1]?.getD undef) (fun k => css.flatten[k * 7 + 2]?.getD undef) (fun k => css.flatten[k * 7 + 3]?.getD undef) (fun k => css.flatten[k * 7 + 4]?.getD undef) (fun k => css.flatten[k * 7 + 5]?.getD undef) (fun k => css.flatten[k * 7 + 6]?.getD undef) hn hc
      (fun k hk => by
        obtain ⟨x, h1, h2⟩ := h0 k hk 0 (by omega)
        have := hcell k hk 0 (by omega)
        rw [Nat.add_zero] at this h1
        rw [this, h1, h2 rfl, List.getElem?_eq_getElem hk]; rfl)
      (fun k hk => by obtain ⟨x, h1, _⟩ := h0 k hk 1 (by omega); rw [hcell k hk 1 (by omega), h1]; rfl)
      (fun k hk => by obtain ⟨x, h1, _⟩ := h0 k hk 2 (by omega); rw [hcell k hk 2 (by omega), h1]; rfl)
      (fun k hk => by obtain ⟨x, h1, _⟩ := h0 k hk 3 (by omega); rw [hcell k hk 3 (by omega), h1]; rfl)
      (fun k hk => by obtain ⟨x, h1, _⟩ := h0 k hk 4 (by omega); rw [hcell k hk 4 (by omega), h1]; rfl)
      (fun k hk => by obtain ⟨x, h1, _⟩ := h0 k hk 5 (by omega); rw [hcell k hk 5 (by omega), h1]; rfl)
      (fun k hk => by obtain ⟨x, h1, _⟩ := h0 k hk 6 (by omega); rw [hcell k hk 6 (by omega), h1]; rfl)
    have HA : Hid (decide (0 ≤ firstAt (fun k => l[k]?.getD 0 == hd) l.length 0) = l.any fun x => x == hd) := by
      show _ = _
      rw [firstAt_any _ (l.map fun x => x == hd) l.length 0 (fun j hj => by rw [List.getElem?_map, List.getElem?_eq_getElem hj, Nat.zero_add, List.getElem?_eq_getElem hj]; rfl) (by simp), List.any_map]; rfl
    have HI : Hid _ := fun (_ : Unit) => hI
    clear hI h0 hv hcell hc
    generalize firstAt (fun k => l[k]?.getD 0 == hd) l.length 0 = ix at *
    go_enter Tryz.func329, Tryz.ntmps329
    go_wp2_with fail
    refine (HI.out ()).mono ?_
    rintro e w1 ⟨rfl, hg⟩
    go_wp2
    go_ret
    exact ⟨ret_bool HA.out, hg⟩

end Go.Proofs.YtfocdefchbnkpaaGreatDoor

/- A header that is set or dropped, as the program's reader reads it. -/
namespace Go.Proofs.YtfocdefchbnkpaaGreatDoor
open Go.RowKit

set_option maxRecDepth 100000 in
set_option maxHeartbeats 2000000 in
theorem pro_Index_str (x : ByteArray) (w : World) (g n c : Nat) (nms : Nat → ByteArray) (hn : n ≤ 2000000000000) (h0 : ∀ k, k < n → w.cell? ⟨g, k, none⟩ = some (.string (nms k))) :
    Calls Tryz.prog 414 #[.slice (some ⟨g, 0, none⟩) n c, .string x] w fun e w' => e = .returned (.int .i64 (firstAt (fun k => x.toList == (nms k).toList) n 0)) ∧ w' = w := by
  have H0 : Hid _ := h0
  clear h0
  go_enter Tryz.func414, Tryz.ntmps414
  go_wp2
  go_loop [8] (fun iv => ∃ k : Nat, k ≤ n ∧ iv = .int .i64 k ∧ Hid (firstAt (fun k => x.toList == (nms k).toList) n 0 = firstAt (fun k => x.toList == (nms k).toList) (n - k) k)) (fun iv => n - (intOf iv).toNat)
  case atStart => exact ⟨0, Nat.zero_le _, rfl, rfl⟩
  case round =>
    obtain ⟨k, hk, rfl, HF⟩ := hrel
    by_cases hlt : k < n
    · have c0 := H0.out k hlt
      have HF2 : Hid (firstAt (fun k => x.toList == (nms k).toList) n 0 = if (x.toList == (nms k).toList) = true then (k : Int) else firstAt (fun k => x.toList == (nms k).toList) (n - (k + 1)) (k + 1)) := by
        show _ = _
        rw [HF.out, show n - k = (n - (k + 1)) + 1 by omega, firstAt]
      clear HF
      generalize nms k = nk at *
      cases hb : (x.toList == nk.toList)
      · rw [hb] at HF2
        simp only [Bool.false_eq_true, if_false] at HF2
        go_wp2
        exact ⟨⟨k + 1, by omega, by go_num, HF2⟩, by simp [intOf]; omega⟩
      · rw [hb] at HF2
        simp only [if_true] at HF2
        go_wp2
        go_ret
        exact ⟨by rw [HF2.out]; rfl, rfl⟩
    · have hke : k = n := by omega
      subst hke
      rw [Nat.sub_self, firstAt] at HF
      go_wp2
      go_ret
      exact ⟨by rw [HF.out]; rfl, rfl⟩

set_option maxRecDepth 100000 in
set_option maxHeartbeats 2000000 in
theorem pro_Contains_str (x : List UInt8) (w : World) (v : Value) (l : List (List UInt8)) (hv : w.ownsRow 0 9 1 v l.length (R.strCells l)) (hn : l.length ≤ 2000000000000) :
    Calls Tryz.prog 384 #[v, .string (R.str x)] w fun e w' => e = .returned (.bool (l.any fun n => decide (n = x))) ∧ w' = w := by
  by_cases hz : l = []
  · subst hz
    obtain ⟨a, c, rfl⟩ := len_row hv
    clear hv
    go_enter Tryz.func384, Tryz.ntmps384
    go_wp2
    go_loop [8] (fun iv => iv = .int .i64 0) (fun _ => 0)
    case atStart => rfl
    case round =>
      subst hrel
      go_wp2
      go_ret
      exact ⟨rfl, rfl⟩
  · have hpos : 0 < l.length := List.length_pos_iff.2 hz
    obtain ⟨g, cap, rfl, _, _⟩ := World.ownsRow.form hv hpos
    have hI := pro_Index_str (R.str x) w g l.length cap (fun k => R.str (l[k]?.getD [])) hn (fun k hk => by
      rw [World.ownsRow.cellAt hv k (by omega)]; unfold R.strCells
      rw [List.getElem?_map, List.getElem?_eq_getElem hk]; rfl)
    have hq : ∀ a b : List UInt8, ((R.str a).toList == (R.str b).toList) = decide (b = a) := fun a b => by rw [toLs, ByteArray.toList_eq, R.str_toList, Bool.eq_iff_iff]; simp [eq_comm]
    simp only [hq] at hI
    have HA : Hid (decide (0 ≤ firstAt (fun k => decide (l[k]?.getD [] = x)) l.length 0) = l.any fun n => decide (n = x)) := by
      show _ = _
      rw [firstAt_any _ (l.map fun n => decide (n = x)) l.length 0 (fun j hj => by rw [List.getElem?_map, List.getElem?_eq_getElem hj, Nat.zero_add, List.getElem?_eq_getElem hj]; rfl) (by simp), List.any_map]; rfl
    have HI : Hid _ := fun (_ : Unit) => hI
    clear hI hv hq
    generalize firstAt (fun k => decide (l[k]?.getD [] = x)) l.length 0 = ix at *
    go_enter Tryz.func384, Tryz.ntmps384
    go_wp2_with fail
    refine (HI.out ()).mono ?_
    rintro e w1 ⟨rfl, hg⟩
    rw [hg]
    clear hg w1
    go_wp2
    go_ret
    exact ⟨ret_bool HA.out, rfl⟩

theorem R.fd_at (l : List (List UInt8 × List UInt8)) (k : Nat) (hk : k < l.length) : (R.fdCells l)[k * 2]? = some (.string (R.str l[k].1)) ∧ (R.fdCells l)[k * 2 + 1]? = some (.string (R.str l[k].2)) := by
  induction l generalizing k with
  | nil => simp at hk
  | cons t l ih =>
    have e : R.fdCells (t :: l) = [Value.string (R.str t.1), .string (R.str t.2)] ++ R.fdCells l := by simp [R.fdCells]
    rw [e]
    match k with
    | 0 => exact ⟨rfl, rfl⟩
    | k + 1 =>
      have := ih k (by simpa using hk)
      rw [List.getElem?_append_right (by simp; omega), List.getElem?_append_right (by simp; omega)]
      simp only [List.length_cons, List.length_nil]
      rw [show (k + 1) * 2 - (0 + 1 + 1) = k * 2 by omega, show (k + 1) * 2 + 1 - (0 + 1 + 1) = k * 2 + 1 by omega]
      exact this

theorem str_beq (a b : List UInt8) : ((R.str a).toList == (R.str b).toList) = decide (a = b) := by rw [toLs, ByteArray.toList_eq, R.str_toList]
theorem pro_has_set (b : Nat) (hd : List UInt8) (w : World) (v : Value) (sets : List (List UInt8 × List UInt8)) (hS : w.ownsRow 0 280 2 v sets.length (R.fdCells sets)) (hn : sets.length ≤ 2000000000000) (hc : w.cell? ⟨b, 0, none⟩ = some (.string (R.str hd))) :
    Calls Tryz.prog 383 #[v, .func (.func 382) #[] #[.pointer (some ⟨b, 0, none⟩)]] w fun e w' => e = .returned (.bool ((sets.map Prod.fst).any fun n => decide (n = hd))) ∧ w.grownBy w' none := by
  have h := pro_ContainsFunc_set b (R.str hd) w v (sets.map fun t => R.str t.1) (sets.map fun t => [Value.string (R.str t.1), .string (R.str t.2)]) (by rw [List.length_map]; exact hS) (by rw [List.length_map]; exact hn) hc (fun k hk j hj => by
    rw [List.length_map] at hk
    have ha := R.fd_at sets k hk
    unfold R.fdCells at ha
    match j, hj with
    | 0, _ => exact ⟨_, ha.1, fun _ => by rw [List.getElem_map]⟩
    | 1, _ => exact ⟨_, ha.2, fun h => absurd h (by decide)⟩)
  rw [List.any_map] at h
  simp only [Function.comp_def, str_beq] at h
  rw [List.any_map]; exact h

theorem PInv.row {w w' : World} {rb B n sz : Nat} {s : ByteArray} {st : P.St} {e : TypeId} {v : Value} {xs : List Value} (h : PInv w rb s st) (hr : w.ownsRow B e sz v n xs) (hg : w.grownBy w' (some rb)) (hne : e ≠ 204) : w'.ownsRow B e sz v n xs :=
  own_kept_box hr hg (box_apart h.rd hr (Ne.symm hne))

set_option maxRecDepth 100000 in
set_option maxHeartbeats 2000000 in
theorem pro_edited {w : World} {rb : Nat} {s : ByteArray} {st : P.St} (h : PInv w rb s st) (c0 c1 c2 c3 c4 vS vD : Value) (sets : List (List UInt8 × List UInt8)) (drops : List (List UInt8))
    (hS : w.ownsRow 0 280 2 vS sets.length (R.fdCells sets)) (hD : w.ownsRow 0 9 1 vD drops.length (R.strCells drops)) (hn : sets.length ≤ 2000000000000) (hm : drops.length ≤ 2000000000000) :
    Calls Tryz.prog 336 #[.pointer (some ⟨rb, 0, none⟩), .agg #[c0, c1, c2, c3, c4, vS, vD]] w fun e w' => e = .returned (.string (R.str (P.editedS s.data.toList st (sets.map Prod.fst ++ drops)).1)) ∧ PInv w' rb s (P.editedS s.data.toList st (sets.map Prod.fst ++ drops)).2 ∧ w.grownBy w' (some rb) := by
  have HP : Hid (P.editedS s.data.toList st (sets.map Prod.fst ++ drops) = ((P.headerS s.data.toList st).1, P.noteIf (P.headerS s.data.toList st).2 ((sets.map Prod.fst ++ drops).any fun n => decide (n = (P.headerS s.data.toList st).1)) 5 st.tok.at_)) := rfl
  have H0 : Hid _ := h
  have brb : rb < w.heap.size := block_lt h.rd
  have HSr : Hid _ := hS
  have HDr : Hid _ := hD
  clear h hS hD
  go_enter Tryz.func336, Tryz.ntmps336
  have C0 : Hid (w.grownBy w (some rb)) := grown_refl _ _
  have HS_0 : Hid _ := HSr.out
  have HD_0 : Hid _ := HDr.out
  go_wp2_with fail
  refine (pro_header (H0.out.keep (World.grownBy_alloc _ _ _))).mono ?_
  rintro e w1 ⟨rfl, I1, hg1⟩
  have J1 : Hid _ := I1
  have b1 : rb < w1.heap.size := block_lt J1.out.rd
  have s1 : w.heap.size + 1 ≤ w1.heap.size := by have h := hg1.size; simpa using h
  have G1 : Hid (w.grownBy w1 (some rb)) := (grown_trans (World.grownBy_alloc _ _ _) hg1)
  have C1 : Hid (w.grownBy w1 (some rb)) := grown_trans C0.out G1.out
  have z1 : w.heap.size ≤ w1.heap.size := C1.out.size
  have HS_1 : Hid _ := H0.out.row HS_0.out G1.out (by decide)
  have HD_1 : Hid _ := H0.out.row HD_0.out G1.out (by decide)
  have UB_1 : Hid (w1.heap[w.heap.size]? = some (.cells #[c0, c1, c2, c3, c4, vS, vD] 213)) := new_block hg1 (by simp; omega)
  clear hg1 I1
  generalize P.headerS s.data.toList st = q at *
  obtain ⟨hd, st1⟩ := q
  simp only at J1 HP ⊢
  rw [List.any_append] at HP
  have qUBl : w.heap.size < w1.heap.size := block_lt UB_1.out
  have qUB5 : w1.cell? ⟨w.heap.size, 5, none⟩ = some vS := cell_of_block UB_1.out
  have qUB6 : w1.cell? ⟨w.heap.size, 6, none⟩ = some vD := cell_of_block UB_1.out
  have HNa : Hid (sets.length ≤ 2000000000000) := hn
  have HNb : Hid (drops.length ≤ 2000000000000) := hm
  clear hn hm
  go_wp2_with fail
  refine (pro_has_set w1.heap.size hd _ vS sets (World.ownsRow.alloc HS_1.out _) HNa.out (cell_of_block (heap_alloc_new w1 _))).mono ?_
  rintro e w2 ⟨rfl, gg2⟩
  have hg2 := grown_wide gg2 (some rb)
  have J2 : Hid _ := ((J1.out.keep (World.grownBy_alloc _ _ _))).keep gg2
  have b2 : rb < w2.heap.size := block_lt J2.out.rd
  have s2 : w1.heap.size + 1 ≤ w2.heap.size := by have h := hg2.size; simpa using h
  have G2 : Hid (w1.grownBy w2 (some rb)) := (grown_trans (World.grownBy_alloc _ _ _) hg2)
  have C2 : Hid (w.grownBy w2 (some rb)) := grown_trans C1.out G2.out
  have z2 : w.heap.size ≤ w2.heap.size := C2.out.size
  have HS_2 : Hid _ := J1.out.row HS_1.out G2.out (by decide)
  have HD_2 : Hid _ := J1.out.row HD_1.out G2.out (by decide)
  have UB_2 : Hid (w2.heap[w.heap.size]? = some (.cells #[c0, c1, c2, c3, c4, vS, vD] 213)) := keep_block UB_1.out G2.out (by simp; omega)
  have HB_2 : Hid (w2.heap[w1.heap.size]? = some (.cells #[.string (R.str hd)] 9)) := new_block hg2 (by simp; omega)
  clear hg2 gg2
  generalize ((sets.map Prod.fst).any fun n => decide (n = hd)) = b1 at *
  cases b1
  · have qul : w.heap.size < w2.heap.size := block_lt UB_2.out
    have qu6 : w2.cell? ⟨w.heap.size, 6, none⟩ = some vD := cell_of_block UB_2.out
    have qhl : w1.heap.size < w2.heap.size := block_lt HB_2.out
    have qh0 : w2.cell? ⟨w1.heap.size, 0, none⟩ = some (.string (R.str hd)) := cell_of_block HB_2.out
    go_wp2_with fail
    refine (pro_Contains_str hd _ vD drops HD_2.out HNb.out).mono ?_
    rintro e wX ⟨rfl, hwX⟩
    rw [hwX]
    clear hwX wX
    go_wp2_with fail
    refine (pro_noteIf J2.out _ _ _).mono ?_
    rintro e wa1 ⟨rfl, Ia1, hga1⟩
    have Ja1 : Hid _ := Ia1
    have ba1 : rb < wa1.heap.size := block_lt Ja1.out.rd
    have sa1 : w2.heap.size + 0 ≤ wa1.heap.size := by have h := hga1.size; simpa using h
    have Ga1 : Hid (w2.grownBy wa1 (some rb)) := hga1
    have Ca1 : Hid (w.grownBy wa1 (some rb)) := grown_trans C2.out Ga1.out
    have za1 : w.heap.size ≤ wa1.heap.size := Ca1.out.size
    have HS_a1 : Hid _ := J2.out.row HS_2.out Ga1.out (by decide)
    have HD_a1 : Hid _ := J2.out.row HD_2.out Ga1.out (by decide)
    have UB_a1 : Hid (wa1.heap[w.heap.size]? = some (.cells #[c0, c1, c2, c3, c4, vS, vD] 213)) := keep_block UB_2.out Ga1.out (by simp; omega)
    have HB_a1 : Hid (wa1.heap[w1.heap.size]? = some (.cells #[.string (R.str hd)] 9)) := keep_block HB_2.out Ga1.out (by simp; omega)
    clear hga1 Ia1
    have qkl : w1.heap.size < wa1.heap.size := block_lt HB_a1.out
    have qk0 : wa1.cell? ⟨w1.heap.size, 0, none⟩ = some (.string (R.str hd)) := cell_of_block HB_a1.out
    go_wp2
    go_ret
    exact ⟨by rw [HP.out]; rfl, by rw [HP.out, Bool.false_or]; exact Ja1.out, Ca1.out⟩
  · go_wp2_with fail
    refine (pro_noteIf J2.out _ _ _).mono ?_
    rintro e wb1 ⟨rfl, Ib1, hgb1⟩
    have Jb1 : Hid _ := Ib1
    have bb1 : rb < wb1.heap.size := block_lt Jb1.out.rd
    have sb1 : w2.heap.size + 0 ≤ wb1.heap.size := by have h := hgb1.size; simpa using h
    have Gb1 : Hid (w2.grownBy wb1 (some rb)) := hgb1
    have Cb1 : Hid (w.grownBy wb1 (some rb)) := grown_trans C2.out Gb1.out
    have zb1 : w.heap.size ≤ wb1.heap.size := Cb1.out.size
    have HS_b1 : Hid _ := J2.out.row HS_2.out Gb1.out (by decide)
    have HD_b1 : Hid _ := J2.out.row HD_2.out Gb1.out (by decide)
    have UB_b1 : Hid (wb1.heap[w.heap.size]? = some (.cells #[c0, c1, c2, c3, c4, vS, vD] 213)) := keep_block UB_2.out Gb1.out (by simp; omega)
    have HB_b1 : Hid (wb1.heap[w1.heap.size]? = some (.cells #[.string (R.str hd)] 9)) := keep_block HB_2.out Gb1.out (by simp; omega)
    clear hgb1 Ib1
    have qkl : w1.heap.size < wb1.heap.size := block_lt HB_b1.out
    have qk0 : wb1.cell? ⟨w1.heap.size, 0, none⟩ = some (.string (R.str hd)) := cell_of_block HB_b1.out
    go_wp2
    go_ret
    exact ⟨by rw [HP.out]; rfl, by rw [HP.out, Bool.true_or]; exact Jb1.out, Cb1.out⟩

end Go.Proofs.YtfocdefchbnkpaaGreatDoor

/- What a rule sets and drops, as the program's reader reads it. -/
namespace Go.Proofs.YtfocdefchbnkpaaGreatDoor
open Go.RowKit

set_option maxRecDepth 100000 in
set_option maxHeartbeats 2000000 in
theorem pro_set {w : World} {rb : Nat} {s : ByteArray} {st : P.St} (h : PInv w rb s st) (c0 c1 c2 c3 c4 vS vD : Value) (sets : List (List UInt8 × List UInt8)) (drops : List (List UInt8))
    (hS : w.ownsRow 0 280 2 vS sets.length (R.fdCells sets)) (hD : w.ownsRow 0 9 1 vD drops.length (R.strCells drops)) (hn : sets.length ≤ 2000000000000) (hm : drops.length ≤ 2000000000000) :
    Calls Tryz.prog 274 #[.pointer (some ⟨rb, 0, none⟩), .agg #[c0, c1, c2, c3, c4, vS, vD]] w fun e w' => e = .returned (.agg #[.string (R.str (P.setS s.data.toList st sets.length (sets.map Prod.fst ++ drops)).1.1), .string (R.str (P.setS s.data.toList st sets.length (sets.map Prod.fst ++ drops)).1.2)]) ∧ PInv w' rb s (P.setS s.data.toList st sets.length (sets.map Prod.fst ++ drops)).2 ∧ w.grownBy w' (some rb) := by
  have HP : Hid (P.setS s.data.toList st sets.length (sets.map Prod.fst ++ drops) = (((P.setA s.data.toList st sets.length (sets.map Prod.fst ++ drops)).1, (P.valueS s.data.toList (P.setA s.data.toList st sets.length (sets.map Prod.fst ++ drops)).2).1), P.takeS s.data.toList (P.valueS s.data.toList (P.setA s.data.toList st sets.length (sets.map Prod.fst ++ drops)).2).2 [59])) := rfl
  have HA : Hid (P.setA s.data.toList st sets.length (sets.map Prod.fst ++ drops) = P.editedS s.data.toList (P.takeS s.data.toList (P.oneMore st sets.length 3) R.wSet) (sets.map Prod.fst ++ drops)) := rfl
  have H0 : Hid _ := h
  have brb : rb < w.heap.size := block_lt h.rd
  have HSr : Hid _ := hS
  have HDr : Hid _ := hD
  obtain ⟨sa, sc, rfl⟩ := len_row hS
  have HNa : Hid _ := hn
  have HNb : Hid _ := hm
  clear h hS hD hn hm
  go_enter Tryz.func274, Tryz.ntmps274
  have C0 : Hid (w.grownBy w (some rb)) := grown_refl _ _
  have HS_0 : Hid _ := HSr.out
  have HD_0 : Hid _ := HDr.out
  go_wp2_with fail
  have J1 : Hid _ := H0.out.keep (World.grownBy_alloc w (.cells #[c0, c1, c2, c3, c4, .slice sa sets.length sc, vD] 213) none)
  have C1 : Hid (w.grownBy (World.alloc w (.cells #[c0, c1, c2, c3, c4, .slice sa sets.length sc, vD] 213)) (some rb)) := grown_trans C0.out (World.grownBy_alloc w (.cells #[c0, c1, c2, c3, c4, .slice sa sets.length sc, vD] 213) _)
  have HS_1 : Hid _ := World.ownsRow.alloc HS_0.out (.cells #[c0, c1, c2, c3, c4, .slice sa sets.length sc, vD] 213)
  have HD_1 : Hid _ := World.ownsRow.alloc HD_0.out (.cells #[c0, c1, c2, c3, c4, .slice sa sets.length sc, vD] 213)
  have UB_1 : Hid ((World.alloc w (.cells #[c0, c1, c2, c3, c4, .slice sa sets.length sc, vD] 213)).heap[w.heap.size]? = some (.cells #[c0, c1, c2, c3, c4, .slice sa sets.length sc, vD] 213)) := heap_alloc_new _ _
  have s1 : w.heap.size + 1 ≤ (World.alloc w (.cells #[c0, c1, c2, c3, c4, .slice sa sets.length sc, vD] 213)).heap.size := by simp
  have t1 : (World.alloc w (.cells #[c0, c1, c2, c3, c4, .slice sa sets.length sc, vD] 213)).heap.size ≤ w.heap.size + 1 := by simp
  generalize (World.alloc w (.cells #[c0, c1, c2, c3, c4, .slice sa sets.length sc, vD] 213)) = w1 at *
  have b1 : rb < w1.heap.size := by omega
  have z1 : w.heap.size ≤ w1.heap.size := C1.out.size
  have J2 : Hid _ := J1.out.keep (World.grownBy_alloc w1 (.cells #[.string ⟨#[]⟩, .string ⟨#[]⟩] 280) none)
  have C2 : Hid (w.grownBy (World.alloc w1 (.cells #[.string ⟨#[]⟩, .string ⟨#[]⟩] 280)) (some rb)) := grown_trans C1.out (World.grownBy_alloc w1 (.cells #[.string ⟨#[]⟩, .string ⟨#[]⟩] 280) _)
  have HS_2 : Hid _ := World.ownsRow.alloc HS_1.out (.cells #[.string ⟨#[]⟩, .string ⟨#[]⟩] 280)
  have HD_2 : Hid _ := World.ownsRow.alloc HD_1.out (.cells #[.string ⟨#[]⟩, .string ⟨#[]⟩] 280)
  have UB_2 : Hid ((World.alloc w1 (.cells #[.string ⟨#[]⟩, .string ⟨#[]⟩] 280)).heap[w.heap.size]? = some (.cells #[c0, c1, c2, c3, c4, .slice sa sets.length sc, vD] 213)) := keep_block UB_1.out (World.grownBy_alloc w1 (.cells #[.string ⟨#[]⟩, .string ⟨#[]⟩] 280) none) (by simp)
  have RB_2 : Hid ((World.alloc w1 (.cells #[.string ⟨#[]⟩, .string ⟨#[]⟩] 280)).heap[w1.heap.size]? = some (.cells #[.string ⟨#[]⟩, .string ⟨#[]⟩] 280)) := heap_alloc_new _ _
  have s2 : w1.heap.size + 1 ≤ (World.alloc w1 (.cells #[.string ⟨#[]⟩, .string ⟨#[]⟩] 280)).heap.size := by simp
  have t2 : (World.alloc w1 (.cells #[.string ⟨#[]⟩, .string ⟨#[]⟩] 280)).heap.size ≤ w1.heap.size + 1 := by simp
  generalize (World.alloc w1 (.cells #[.string ⟨#[]⟩, .string ⟨#[]⟩] 280)) = w2 at *
  have b2 : rb < w2.heap.size := by omega
  have z2 : w.heap.size ≤ w2.heap.size := C2.out.size
  have hE : w1.heap.size = w.heap.size + 1 := by omega
  rw [hE] at RB_2
  clear hE
  refine (pro_oneMore J2.out _ _).mono ?_
  rintro e w3 ⟨rfl, I3, hg3⟩
  have J3 : Hid _ := I3
  have b3 : rb < w3.heap.size := block_lt J3.out.rd
  have s3 : w2.heap.size + 0 ≤ w3.heap.size := by have h := hg3.size; simpa using h
  have G3 : Hid (w2.grownBy w3 (some rb)) := hg3
  have C3 : Hid (w.grownBy w3 (some rb)) := grown_trans C2.out G3.out
  have z3 : w.heap.size ≤ w3.heap.size := C3.out.size
  have HS_3 : Hid _ := J2.out.row HS_2.out G3.out (by decide)
  have HD_3 : Hid _ := J2.out.row HD_2.out G3.out (by decide)
  have UB_3 : Hid (w3.heap[w.heap.size]? = some (.cells #[c0, c1, c2, c3, c4, .slice sa sets.length sc, vD] 213)) := keep_block UB_2.out G3.out (by simp; omega)
  have RB_3 : Hid (w3.heap[w.heap.size + 1]? = some (.cells #[.string ⟨#[]⟩, .string ⟨#[]⟩] 280)) := keep_block RB_2.out G3.out (by simp; omega)
  clear hg3 I3
  go_wp2_with fail
  refine (pro_take J3.out _).mono ?_
  rintro e w4 ⟨rfl, I4, hg4⟩
  have J4 : Hid _ := I4
  have b4 : rb < w4.heap.size := block_lt J4.out.rd
  have s4 : w3.heap.size + 0 ≤ w4.heap.size := by have h := hg4.size; simpa using h
  have G4 : Hid (w3.grownBy w4 (some rb)) := hg4
  have C4 : Hid (w.grownBy w4 (some rb)) := grown_trans C3.out G4.out
  have z4 : w.heap.size ≤ w4.heap.size := C4.out.size
  have HS_4 : Hid _ := J3.out.row HS_3.out G4.out (by decide)
  have HD_4 : Hid _ := J3.out.row HD_3.out G4.out (by decide)
  have UB_4 : Hid (w4.heap[w.heap.size]? = some (.cells #[c0, c1, c2, c3, c4, .slice sa sets.length sc, vD] 213)) := keep_block UB_3.out G4.out (by simp; omega)
  have RB_4 : Hid (w4.heap[w.heap.size + 1]? = some (.cells #[.string ⟨#[]⟩, .string ⟨#[]⟩] 280)) := keep_block RB_3.out G4.out (by simp; omega)
  clear hg4 I4
  rw [show (⟨#[115, 101, 116]⟩ : ByteArray).data.toList = R.wSet from rfl] at J4
  have qUBl : w.heap.size < w4.heap.size := block_lt UB_4.out
  have qUB0 : w4.cell? ⟨w.heap.size, 0, none⟩ = some c0 := cell_of_block UB_4.out
  have qUB1 : w4.cell? ⟨w.heap.size, 1, none⟩ = some c1 := cell_of_block UB_4.out
  have qUB2 : w4.cell? ⟨w.heap.size, 2, none⟩ = some c2 := cell_of_block UB_4.out
  have qUB3 : w4.cell? ⟨w.heap.size, 3, none⟩ = some c3 := cell_of_block UB_4.out
  have qUB4 : w4.cell? ⟨w.heap.size, 4, none⟩ = some c4 := cell_of_block UB_4.out
  have qUB5 : w4.cell? ⟨w.heap.size, 5, none⟩ = some (.slice sa sets.length sc) := cell_of_block UB_4.out
  have qUB6 : w4.cell? ⟨w.heap.size, 6, none⟩ = some vD := cell_of_block UB_4.out
  go_wp2_with fail
  refine (pro_edited J4.out c0 c1 c2 c3 c4 (.slice sa sets.length sc) vD sets drops HS_4.out HD_4.out HNa.out HNb.out).mono ?_
  rintro e w5 ⟨rfl, I5, hg5⟩
  have J5 : Hid _ := I5
  have b5 : rb < w5.heap.size := block_lt J5.out.rd
  have s5 : w4.heap.size + 0 ≤ w5.heap.size := by have h := hg5.size; simpa using h
  have G5 : Hid (w4.grownBy w5 (some rb)) := hg5
  have C5 : Hid (w.grownBy w5 (some rb)) := grown_trans C4.out G5.out
  have z5 : w.heap.size ≤ w5.heap.size := C5.out.size
  have HS_5 : Hid _ := J4.out.row HS_4.out G5.out (by decide)
  have HD_5 : Hid _ := J4.out.row HD_4.out G5.out (by decide)
  have UB_5 : Hid (w5.heap[w.heap.size]? = some (.cells #[c0, c1, c2, c3, c4, .slice sa sets.length sc, vD] 213)) := keep_block UB_4.out G5.out (by simp; omega)
  have RB_5 : Hid (w5.heap[w.heap.size + 1]? = some (.cells #[.string ⟨#[]⟩, .string ⟨#[]⟩] 280)) := keep_block RB_4.out G5.out (by simp; omega)
  clear hg5 I5
  rw [← HA.out] at J5
  rw [← HA.out]
  clear HA
  generalize P.setA s.data.toList st sets.length (sets.map Prod.fst ++ drops) = q at *
  obtain ⟨nm, st1⟩ := q
  simp only at J5 HP ⊢
  go_wp2_with fail
  refine (pro_value J5.out).mono ?_
  rintro e w6 ⟨rfl, I6, hg6⟩
  have J6 : Hid _ := I6
  have b6 : rb < w6.heap.size := block_lt J6.out.rd
  have s6 : w5.heap.size + 0 ≤ w6.heap.size := by have h := hg6.size; simpa using h
  have G6 : Hid (w5.grownBy w6 (some rb)) := hg6
  have C6 : Hid (w.grownBy w6 (some rb)) := grown_trans C5.out G6.out
  have z6 : w.heap.size ≤ w6.heap.size := C6.out.size
  have HS_6 : Hid _ := J5.out.row HS_5.out G6.out (by decide)
  have HD_6 : Hid _ := J5.out.row HD_5.out G6.out (by decide)
  have UB_6 : Hid (w6.heap[w.heap.size]? = some (.cells #[c0, c1, c2, c3, c4, .slice sa sets.length sc, vD] 213)) := keep_block UB_5.out G6.out (by simp; omega)
  have RB_6 : Hid (w6.heap[w.heap.size + 1]? = some (.cells #[.string ⟨#[]⟩, .string ⟨#[]⟩] 280)) := keep_block RB_5.out G6.out (by simp; omega)
  clear hg6 I6
  generalize P.valueS s.data.toList st1 = q at *
  obtain ⟨vl, st2⟩ := q
  simp only at J6 HP ⊢
  go_wp2_with fail
  refine (pro_take J6.out _).mono ?_
  rintro e w7 ⟨rfl, I7, hg7⟩
  have J7 : Hid _ := I7
  have b7 : rb < w7.heap.size := block_lt J7.out.rd
  have s7 : w6.heap.size + 0 ≤ w7.heap.size := by have h := hg7.size; simpa using h
  have G7 : Hid (w6.grownBy w7 (some rb)) := hg7
  have C7 : Hid (w.grownBy w7 (some rb)) := grown_trans C6.out G7.out
  have z7 : w.heap.size ≤ w7.heap.size := C7.out.size
  have HS_7 : Hid _ := J6.out.row HS_6.out G7.out (by decide)
  have HD_7 : Hid _ := J6.out.row HD_6.out G7.out (by decide)
  have UB_7 : Hid (w7.heap[w.heap.size]? = some (.cells #[c0, c1, c2, c3, c4, .slice sa sets.length sc, vD] 213)) := keep_block UB_6.out G7.out (by simp; omega)
  have RB_7 : Hid (w7.heap[w.heap.size + 1]? = some (.cells #[.string ⟨#[]⟩, .string ⟨#[]⟩] 280)) := keep_block RB_6.out G7.out (by simp; omega)
  clear hg7 I7
  have qrl : w.heap.size + 1 < w7.heap.size := block_lt RB_7.out
  have qr0 : w7.cell? ⟨w.heap.size + 1, 0, none⟩ = some (.string ⟨#[]⟩) := cell_of_block RB_7.out
  have qrf0 : w7.frozen? ⟨w.heap.size + 1, 0, none⟩ = false := frozen_of_block RB_7.out
  have qr1 : w7.cell? ⟨w.heap.size + 1, 1, none⟩ = some (.string ⟨#[]⟩) := cell_of_block RB_7.out
  have qrf1 : w7.frozen? ⟨w.heap.size + 1, 1, none⟩ = false := frozen_of_block RB_7.out
  go_wp2
  have hs2 := grown_trans (grown_setCell w7 (w.heap.size + 1) 0 (.string (R.str nm))) (grown_setCell _ (w.heap.size + 1) 1 (.string (R.str vl)))
  exact bodyPost_ret (v := .agg #[.string (R.str nm), .string (R.str vl)]) (by simp [results, Tryz.results274, go_sem, qr0, qr1]) rfl ⟨by rw [HP.out], by rw [HP.out]; exact J7.out.other hs2 (by omega), grown_new C7.out hs2 (by omega)⟩

set_option maxRecDepth 100000 in
set_option maxHeartbeats 2000000 in
theorem pro_drop {w : World} {rb : Nat} {s : ByteArray} {st : P.St} (h : PInv w rb s st) (c0 c1 c2 c3 c4 vS vD : Value) (sets : List (List UInt8 × List UInt8)) (drops : List (List UInt8))
    (hS : w.ownsRow 0 280 2 vS sets.length (R.fdCells sets)) (hD : w.ownsRow 0 9 1 vD drops.length (R.strCells drops)) (hn : sets.length ≤ 2000000000000) (hm : drops.length ≤ 2000000000000) :
    Calls Tryz.prog 275 #[.pointer (some ⟨rb, 0, none⟩), .agg #[c0, c1, c2, c3, c4, vS, vD]] w fun e w' => e = .returned (.string (R.str (P.dropS s.data.toList st drops.length (sets.map Prod.fst ++ drops)).1)) ∧ PInv w' rb s (P.dropS s.data.toList st drops.length (sets.map Prod.fst ++ drops)).2 ∧ w.grownBy w' (some rb) := by
  have HP : Hid (P.dropS s.data.toList st drops.length (sets.map Prod.fst ++ drops) = ((P.dropA s.data.toList st drops.length (sets.map Prod.fst ++ drops)).1, P.takeS s.data.toList (P.dropA s.data.toList st drops.length (sets.map Prod.fst ++ drops)).2 [59])) := rfl
  have HA : Hid (P.dropA s.data.toList st drops.length (sets.map Prod.fst ++ drops) = P.editedS s.data.toList (P.takeS s.data.toList (P.oneMore st drops.length 3) R.wDrop) (sets.map Prod.fst ++ drops)) := rfl
  have H0 : Hid _ := h
  have brb : rb < w.heap.size := block_lt h.rd
  have HSr : Hid _ := hS
  have HDr : Hid _ := hD
  obtain ⟨da, dc, rfl⟩ := len_row hD
  have HNa : Hid _ := hn
  have HNb : Hid _ := hm
  clear h hS hD hn hm
  go_enter Tryz.func275, Tryz.ntmps275
  have C0 : Hid (w.grownBy w (some rb)) := grown_refl _ _
  have HS_0 : Hid _ := HSr.out
  have HD_0 : Hid _ := HDr.out
  go_wp2_with fail
  refine (pro_oneMore (H0.out.keep (World.grownBy_alloc _ _ _)) _ _).mono ?_
  rintro e w1 ⟨rfl, I1, hg1⟩
  have J1 : Hid _ := I1
  have b1 : rb < w1.heap.size := block_lt J1.out.rd
  have s1 : w.heap.size + 1 ≤ w1.heap.size := by have h := hg1.size; simpa using h
  have G1 : Hid (w.grownBy w1 (some rb)) := (grown_trans (World.grownBy_alloc _ _ _) hg1)
  have C1 : Hid (w.grownBy w1 (some rb)) := grown_trans C0.out G1.out
  have z1 : w.heap.size ≤ w1.heap.size := C1.out.size
  have HS_1 : Hid _ := H0.out.row HS_0.out G1.out (by decide)
  have HD_1 : Hid _ := H0.out.row HD_0.out G1.out (by decide)
  have UB_1 : Hid (w1.heap[w.heap.size]? = some (.cells #[c0, c1, c2, c3, c4, vS, .slice da drops.length dc] 213)) := new_block hg1 (by simp; omega)
  clear hg1 I1
  go_wp2_with fail
  refine (pro_take J1.out _).mono ?_
  rintro e w2 ⟨rfl, I2, hg2⟩
  have J2 : Hid _ := I2
  have b2 : rb < w2.heap.size := block_lt J2.out.rd
  have s2 : w1.heap.size + 0 ≤ w2.heap.size := by have h := hg2.size; simpa using h
  have G2 : Hid (w1.grownBy w2 (some rb)) := hg2
  have C2 : Hid (w.grownBy w2 (some rb)) := grown_trans C1.out G2.out
  have z2 : w.heap.size ≤ w2.heap.size := C2.out.size
  have HS_2 : Hid _ := J1.out.row HS_1.out G2.out (by decide)
  have HD_2 : Hid _ := J1.out.row HD_1.out G2.out (by decide)
  have UB_2 : Hid (w2.heap[w.heap.size]? = some (.cells #[c0, c1, c2, c3, c4, vS, .slice da drops.length dc] 213)) := keep_block UB_1.out G2.out (by simp; omega)
  clear hg2 I2
  rw [show (⟨#[100, 114, 111, 112]⟩ : ByteArray).data.toList = R.wDrop from rfl] at J2
  have qUBl : w.heap.size < w2.heap.size := block_lt UB_2.out
  have qUB0 : w2.cell? ⟨w.heap.size, 0, none⟩ = some c0 := cell_of_block UB_2.out
  have qUB1 : w2.cell? ⟨w.heap.size, 1, none⟩ = some c1 := cell_of_block UB_2.out
  have qUB2 : w2.cell? ⟨w.heap.size, 2, none⟩ = some c2 := cell_of_block UB_2.out
  have qUB3 : w2.cell? ⟨w.heap.size, 3, none⟩ = some c3 := cell_of_block UB_2.out
  have qUB4 : w2.cell? ⟨w.heap.size, 4, none⟩ = some c4 := cell_of_block UB_2.out
  have qUB5 : w2.cell? ⟨w.heap.size, 5, none⟩ = some vS := cell_of_block UB_2.out
  have qUB6 : w2.cell? ⟨w.heap.size, 6, none⟩ = some (.slice da drops.length dc) := cell_of_block UB_2.out
  go_wp2_with fail
  refine (pro_edited J2.out c0 c1 c2 c3 c4 vS (.slice da drops.length dc) sets drops HS_2.out HD_2.out HNa.out HNb.out).mono ?_
  rintro e w3 ⟨rfl, I3, hg3⟩
  have J3 : Hid _ := I3
  have b3 : rb < w3.heap.size := block_lt J3.out.rd
  have s3 : w2.heap.size + 0 ≤ w3.heap.size := by have h := hg3.size; simpa using h
  have G3 : Hid (w2.grownBy w3 (some rb)) := hg3
  have C3 : Hid (w.grownBy w3 (some rb)) := grown_trans C2.out G3.out
  have z3 : w.heap.size ≤ w3.heap.size := C3.out.size
  have HS_3 : Hid _ := J2.out.row HS_2.out G3.out (by decide)
  have HD_3 : Hid _ := J2.out.row HD_2.out G3.out (by decide)
  have UB_3 : Hid (w3.heap[w.heap.size]? = some (.cells #[c0, c1, c2, c3, c4, vS, .slice da drops.length dc] 213)) := keep_block UB_2.out G3.out (by simp; omega)
  clear hg3 I3
  rw [← HA.out] at J3
  rw [← HA.out]
  clear HA
  generalize P.dropA s.data.toList st drops.length (sets.map Prod.fst ++ drops) = q at *
  obtain ⟨nm, st1⟩ := q
  simp only at J3 HP ⊢
  go_wp2_with fail
  refine (pro_take J3.out _).mono ?_
  rintro e w4 ⟨rfl, I4, hg4⟩
  have J4 : Hid _ := I4
  have b4 : rb < w4.heap.size := block_lt J4.out.rd
  have s4 : w3.heap.size + 0 ≤ w4.heap.size := by have h := hg4.size; simpa using h
  have G4 : Hid (w3.grownBy w4 (some rb)) := hg4
  have C4 : Hid (w.grownBy w4 (some rb)) := grown_trans C3.out G4.out
  have z4 : w.heap.size ≤ w4.heap.size := C4.out.size
  have HS_4 : Hid _ := J3.out.row HS_3.out G4.out (by decide)
  have HD_4 : Hid _ := J3.out.row HD_3.out G4.out (by decide)
  have UB_4 : Hid (w4.heap[w.heap.size]? = some (.cells #[c0, c1, c2, c3, c4, vS, .slice da drops.length dc] 213)) := keep_block UB_3.out G4.out (by simp; omega)
  clear hg4 I4
  go_wp2
  go_ret
  exact ⟨by rw [HP.out]; rfl, by rw [HP.out]; exact J4.out, C4.out⟩

end Go.Proofs.YtfocdefchbnkpaaGreatDoor
