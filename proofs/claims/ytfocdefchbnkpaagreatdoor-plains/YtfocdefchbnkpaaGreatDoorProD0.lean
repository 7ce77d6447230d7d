/- A token from a place on. -/
import Derived.Test.YtfocdefchbnkpaaGreatDoorProC
import Derived.Test.YtfocdefchbnkpaaGreatDoorRefG
namespace Go.Proofs.YtfocdefchbnkpaaGreatDoor
open Go.RowKit

theorem P.signs_idx (c : UInt8) : decide (0 ≤ Lib.indexByte [123, 125, 59, 61, 44] c) = R.signI c.toNat := by
  have : ∀ n : Fin 256, decide (0 ≤ Lib.indexByte [123, 125, 59, 61, 44] (UInt8.ofNat n.val)) = R.signI (UInt8.ofNat n.val).toNat := by decide +kernel
  have h := this ⟨c.toNat, UInt8.toNat_lt c⟩
  simp only [UInt8.ofNat_toNat] at h
  exact h
theorem ret_mk {a b : Int} {c d : Int} (h : a = b) (h2 : c = d) : Ending.returned (.tuple #[.int .i64 a, .int .i64 c]) = .returned (.tuple #[.int .i64 b, .int .i64 d]) := by rw [h, h2]
theorem u8_back (c : UInt8) : ((c.toNat : Int).toNat).toUInt8 = c := by simp

set_option maxRecDepth 100000 in
set_option maxHeartbeats 2000000 in
theorem pro_measure (s : ByteArray) (w : World) (hs : s.size ≤ 1000000000000) :
    Calls Tryz.prog 204 #[.string s] w fun e w' => e = .returned (.tuple #[.int .i64 (P.measure s.data.toList).1, .int .i64 (P.measure s.data.toList).2]) ∧ w.grownBy w' none := by
  have hs2 : s.size ≤ maxLen := by unfold maxLen; omega
  by_cases h0 : s.size = 0
  · have HM : Hid (P.measure s.data.toList = (0, 0)) := by
      have : s.data.toList = [] := List.length_eq_zero_iff.1 (by rw [R.size_eq]; exact h0)
      rw [this]; rfl
    have hse : s = ⟨#[]⟩ := by
      apply str_ext; exact List.length_eq_zero_iff.1 (by rw [R.size_eq]; exact h0)
    subst hse
    clear h0 hs hs2
    go_enter Tryz.func204, Tryz.ntmps204
    go_wp2
    go_ret2
    exact ⟨by rw [HM.out]; rfl, grown_refl _ _⟩
  · have h1 : 0 < s.size := by omega
    have hcons : s.data.toList = s[0] :: s.data.toList.drop 1 := by
      have := R.drop_cons s 0 h1; rw [List.drop_zero] at this; exact this
    have HM : Hid (P.measure s.data.toList = if R.smallI s[0].toNat then (R.span R.smallI s.data.toList, (1 : Int)) else if R.digitI s[0].toNat then P.measureN s.data.toList else if s[0].toNat = 34 then P.measureS s.data.toList else if R.signI s[0].toNat then (1, 4) else (0, 5)) := by
      show P.measure _ = _
      conv => lhs; rw [hcons]
      rw [P.measure, ← hcons]
    have hne : (s.toList == []) = false := by
      rw [ByteArray.toList_eq, hcons]; rfl
    have HRun : Hid _ := fun w => pro_Run_small s w hs2
    have HNum : Hid _ := fun w => pro_measureNumber s w hs2
    have HStr : Hid _ := fun w => pro_measureString s w hs h1
    have hsg := P.signs_idx s[0]
    have HIdx : Hid (∀ w, Calls Tryz.prog 264 #[.string ⟨#[123, 125, 59, 61, 44]⟩, .int .u8 s[0].toNat] w fun e w' => e = .returned (.int .i64 (Lib.indexByte [123, 125, 59, 61, 44] s[0])) ∧ w' = w) := fun w => by
      have := Tryz.strings_IndexByte ⟨#[123, 125, 59, 61, 44]⟩ s[0].toNat w
      rw [u8_back] at this; exact this
    clear hcons
    generalize P.measure s.data.toList = m at *
    generalize P.measureN s.data.toList = mn at *
    generalize P.measureS s.data.toList = ms at *
    generalize R.span R.smallI s.data.toList = sp at *
    generalize Lib.indexByte [123, 125, 59, 61, 44] s[0] = ix at *
    cases ha : R.smallI s[0].toNat
    · rw [ha] at HM
      simp only [Bool.false_eq_true, if_false] at HM
      cases hd : R.digitI s[0].toNat
      · rw [hd] at HM
        simp only [Bool.false_eq_true, if_false] at HM
        by_cases h34 : s[0].toNat = 34
        · rw [if_pos h34] at HM
          have g34 : ((s[0].toNat : Int) == 34) = true := by rw [h34]; rfl
          clear h34
          go_enter Tryz.func204, Tryz.ntmps204
          go_wp2_with (first
            | (go_at_call 260; refine (pro_IsSmall _ _).mono ?_; rintro e w' ⟨rfl, rfl⟩)
            | (go_at_call 261; refine (pro_IsDigit _ _).mono ?_; rintro e w' ⟨rfl, rfl⟩)
            | (go_at_call 263; refine (HStr.out _).mono ?_; rintro e w1 ⟨rfl, hg⟩))
          go_ret2
          exact ⟨by rw [HM.out]; rfl, hg⟩
        · rw [if_neg h34] at HM
          have g34 : ((s[0].toNat : Int) == 34) = false := by rw [beq_eq_false_iff_ne]; omega
          clear h34
          cases hsi : R.signI s[0].toNat
          · rw [hsi] at HM hsg
            simp only [Bool.false_eq_true, if_false] at HM
            have hneg : ¬ 0 ≤ ix := by simpa using hsg
            clear hsg
            go_enter Tryz.func204, Tryz.ntmps204
            go_wp2_with (first
              | (go_at_call 260; refine (pro_IsSmall _ _).mono ?_; rintro e w' ⟨rfl, rfl⟩)
              | (go_at_call 261; refine (pro_IsDigit _ _).mono ?_; rintro e w' ⟨rfl, rfl⟩)
              | (go_at_call 264; refine (HIdx.out _).mono ?_; rintro e w' ⟨rfl, rfl⟩))
            go_ret2
            exact ⟨by rw [HM.out]; rfl, grown_refl _ _⟩
          · rw [hsi] at HM hsg
            simp only [if_true] at HM
            have hpos : 0 ≤ ix := by simpa using hsg
            clear hsg
            go_enter Tryz.func204, Tryz.ntmps204
            go_wp2_with (first
              | (go_at_call 260; refine (pro_IsSmall _ _).mono ?_; rintro e w' ⟨rfl, rfl⟩)
              | (go_at_call 261; refine (pro_IsDigit _ _).mono ?_; rintro e w' ⟨rfl, rfl⟩)
              | (go_at_call 264; refine (HIdx.out _).mono ?_; rintro e w' ⟨rfl, rfl⟩))
            go_ret2
            exact ⟨by rw [HM.out]; rfl, grown_refl _ _⟩
      · rw [hd] at HM
        simp only [if_true] at HM
        go_enter Tryz.func204, Tryz.ntmps204
        go_wp2_with (first
          | (go_at_call 260; refine (pro_IsSmall _ _).mono ?_; rintro e w' ⟨rfl, rfl⟩)
          | (go_at_call 261; refine (pro_IsDigit _ _).mono ?_; rintro e w' ⟨rfl, rfl⟩)
          | (go_at_call 262; refine (HNum.out _).mono ?_; rintro e w' ⟨rfl, rfl⟩))
        go_ret2
        exact ⟨by rw [HM.out]; rfl, grown_refl _ _⟩
    · rw [ha] at HM
      simp only [if_true] at HM
      go_enter Tryz.func204, Tryz.ntmps204
      go_wp2_with (first
        | (go_at_call 260; refine (pro_IsSmall _ _).mono ?_; rintro e w' ⟨rfl, rfl⟩)
        | (go_at_call 202; refine (HRun.out _).mono ?_; rintro e w' ⟨rfl, rfl⟩))
      go_ret2
      exact ⟨by rw [HM.out]; rfl, grown_refl _ _⟩

theorem P.place_le (l : List UInt8) (p : Nat) (hp : p ≤ l.length) : P.placeFrom l p ≤ l.length := by
  have h := R.span_le P.blankI (l.drop p)
  rw [List.length_drop] at h
  unfold P.placeFrom; omega
theorem P.token_le (l : List UInt8) (p : Nat) (hp : p ≤ l.length) : (P.tokenFrom l p).at_ + (P.tokenFrom l p).raw.length ≤ l.length := by
  have h1 := P.place_le l p hp
  have h2 := P.measure_le (l.drop (P.placeFrom l p))
  rw [List.length_drop] at h2
  unfold P.tokenFrom
  simp only [List.length_take, List.length_drop]
  omega

set_option maxRecDepth 100000 in
set_option maxHeartbeats 2000000 in
theorem pro_tokenFrom (s : ByteArray) (p : Nat) (w : World) (hs : s.size ≤ 1000000000000) (hp : p ≤ s.size) :
    Calls Tryz.prog 146 #[.string s, .int .i64 p] w fun e w' => e = .returned (.agg #[.int .i64 (P.tokenFrom s.data.toList p).k, .int .i64 (P.tokenFrom s.data.toList p).at_, .string (R.str (P.tokenFrom s.data.toList p).raw)]) ∧ w.grownBy w' none := by
  have hx : (s.extract p s.size).data.toList = s.data.toList.drop p := ext_rest s p
  have hxs : (s.extract p s.size).size ≤ maxLen := by rw [← R.size_eq, hx, List.length_drop, R.size_eq]; unfold maxLen; omega
  have HR := fun w => pro_Run_blank (s.extract p s.size) w hxs
  rw [hx] at HR
  have HRun : Hid _ := HR
  have hpl := P.place_le s.data.toList p (by rw [R.size_eq]; exact hp)
  rw [R.size_eq] at hpl
  have HT : Hid (P.tokenFrom s.data.toList p = ⟨(P.measure (s.data.toList.drop (P.placeFrom s.data.toList p))).2, P.placeFrom s.data.toList p, (s.data.toList.drop (P.placeFrom s.data.toList p)).take (P.measure (s.data.toList.drop (P.placeFrom s.data.toList p))).1⟩) := rfl
  have hpe : P.placeFrom s.data.toList p = p + R.span P.blankI (s.data.toList.drop p) := rfl
  clear HR hx hxs
  generalize R.span P.blankI (s.data.toList.drop p) = n at *
  rw [hpe] at HT hpl
  have hy : (s.extract (p + n) s.size).data.toList = s.data.toList.drop (p + n) := ext_rest s (p + n)
  have hys : (s.extract (p + n) s.size).size ≤ 1000000000000 := by rw [← R.size_eq, hy, List.length_drop, R.size_eq]; omega
  have HM := fun w => pro_measure (s.extract (p + n) s.size) w hys
  rw [hy] at HM
  have HMe : Hid _ := HM
  have hml := P.measure_le (s.data.toList.drop (p + n))
  rw [List.length_drop, R.size_eq] at hml
  clear HM hy hys hpe
  generalize P.measure (s.data.toList.drop (p + n)) = m at *
  obtain ⟨sz, kd⟩ := m
  simp only at HT hml
  go_enter Tryz.func146, Tryz.ntmps146
  go_wp2_with fail
  refine (HRun.out _).mono ?_
  rintro e wX ⟨rfl, hwX⟩
  rw [hwX]
  clear hwX wX
  go_wp2_with fail
  refine (HMe.out _).mono ?_
  rintro e w1 ⟨rfl, hg⟩
  have n0 := new_block hg (by simp)
  have b0 : w.heap.size < w1.heap.size := block_lt n0
  have q00 : w1.cell? ⟨w.heap.size, 0, none⟩ = some (.int .i64 0) := cell_of_block n0
  have q01 : w1.cell? ⟨w.heap.size, 1, none⟩ = some (.int .i64 0) := cell_of_block n0
  have q02 : w1.cell? ⟨w.heap.size, 2, none⟩ = some (.string ⟨#[]⟩) := cell_of_block n0
  have f0 : w1.frozen? ⟨w.heap.size, 0, none⟩ = false := frozen_of_block n0
  have f1 : w1.frozen? ⟨w.heap.size, 1, none⟩ = false := frozen_of_block n0
  have f2 : w1.frozen? ⟨w.heap.size, 2, none⟩ = false := frozen_of_block n0
  have HG : Hid (w.grownBy w1 none) := grown_trans (World.grownBy_alloc _ _ _) hg
  clear n0 hg
  go_wp2
  have hs3 := grown_trans (grown_trans (grown_setCell w1 w.heap.size 0 (.int .i64 kd)) (grown_setCell _ w.heap.size 1 (.int .i64 (p + n)))) (grown_setCell _ w.heap.size 2 (.string (s.extract (p + n) (p + n + sz))))
  refine bodyPost_ret (v := .agg #[.int .i64 kd, .int .i64 (p + n), .string (s.extract (p + n) (p + n + sz))]) (by simp [results, Tryz.results146, go_sem, q00, q01, q02]) rfl ⟨?_, grown_new HG.out hs3 (Nat.le_refl _)⟩
  rw [HT.out, ext_str, show p + n + sz - (p + n) = sz by omega]
  simp

end Go.Proofs.YtfocdefchbnkpaaGreatDoor

/- The program's reader in memory, and its smallest methods. -/
namespace Go.Proofs.YtfocdefchbnkpaaGreatDoor
open Go.RowKit

structure P.St where
  tok : P.Tk
  broken : Bool
  err : Int
  fat : Int

/-- The reader at block rb. -/
structure PInv (w : World) (rb : Nat) (s : ByteArray) (st : P.St) : Prop where
  rd : w.heap[rb]? = some (.cells #[.string s, .int .i64 st.tok.k, .int .i64 st.tok.at_, .string (R.str st.tok.raw), .bool st.broken, .int .i64 st.err, .int .i64 st.fat] 204 (0, 0))
  len : s.size ≤ 1000000000000
  tok : ∃ p, p ≤ s.size ∧ st.tok = P.tokenFrom s.data.toList p

theorem PInv.bd {w : World} {rb : Nat} {s : ByteArray} {st : P.St} (h : PInv w rb s st) : st.tok.at_ + st.tok.raw.length ≤ s.size := by
  obtain ⟨p, hp, e⟩ := h.tok
  rw [e, ← R.size_eq]
  exact P.token_le _ _ (by rw [R.size_eq]; exact hp)
theorem PInv.keep {w w' : World} {rb : Nat} {s : ByteArray} {st : P.St} (h : PInv w rb s st) (hg : w.grownBy w' none) : PInv w' rb s st :=
  ⟨by rw [hg.block rb (block_lt h.rd) (by simp)]; exact h.rd, h.len, h.tok⟩
theorem PInv.other {w w' : World} {rb b : Nat} {s : ByteArray} {st : P.St} (h : PInv w rb s st) (hg : w.grownBy w' (some b)) (h1 : b ≠ rb) : PInv w' rb s st :=
  ⟨by rw [hg.block rb (block_lt h.rd) (by simpa using fun e => h1 e.symm)]; exact h.rd, h.len, h.tok⟩
theorem PInv.away {w w' : World} {rb : Nat} {s : ByteArray} {st : P.St} {row : Option Nat} (h : PInv w rb s st) (hg : w.grownBy w' row) (hr : ∀ k, row = some k → k ≠ rb) : PInv w' rb s st := by
  cases row with
  | none => exact h.keep hg
  | some k => exact h.other hg (hr k rfl)

def P.lookS (l : List UInt8) (st : P.St) (p : Nat) : P.St := { st with tok := P.tokenFrom l p }

set_option maxRecDepth 100000 in
set_option maxHeartbeats 1000000 in
theorem pro_look {w : World} {rb : Nat} {s : ByteArray} {st : P.St} (h : PInv w rb s st) (p : Nat) (hp : p ≤ s.size) :
    Calls Tryz.prog 100 #[.pointer (some ⟨rb, 0, none⟩), .int .i64 p] w fun e w' => e = .returned (.tuple #[]) ∧ PInv w' rb s (P.lookS s.data.toList st p) ∧ w.grownBy w' (some rb) := by
  have c0 : w.cell? ⟨rb, 0, none⟩ = some (.string s) := cell_of_block h.rd
  have hlen := h.len
  have H0 : Hid _ := h
  have HT : Hid _ := fun w => pro_tokenFrom s p w hlen hp
  have HE : Hid (P.lookS s.data.toList st p = { st with tok := P.tokenFrom s.data.toList p }) := rfl
  have HTk : Hid (∃ q, q ≤ s.size ∧ P.tokenFrom s.data.toList p = P.tokenFrom s.data.toList q) := ⟨p, hp, rfl⟩
  generalize P.tokenFrom s.data.toList p = t at *
  clear h
  go_enter Tryz.func100, Tryz.ntmps100
  go_wp2_with fail
  refine (HT.out _).mono ?_
  rintro e w1 ⟨rfl, hg⟩
  have I1 := H0.out.keep hg
  have c1 : w1.cell? ⟨rb, 1, none⟩ = some (.int .i64 st.tok.k) := cell_of_block I1.rd
  have c2 : w1.cell? ⟨rb, 2, none⟩ = some (.int .i64 st.tok.at_) := cell_of_block I1.rd
  have c3 : w1.cell? ⟨rb, 3, none⟩ = some (.string (R.str st.tok.raw)) := cell_of_block I1.rd
  have f1 : w1.frozen? ⟨rb, 1, none⟩ = false := frozen_of_block I1.rd
  have f2 : w1.frozen? ⟨rb, 2, none⟩ = false := frozen_of_block I1.rd
  have f3 : w1.frozen? ⟨rb, 3, none⟩ = false := frozen_of_block I1.rd
  have J1 : Hid _ := I1
  have HG : Hid _ := hg
  clear I1 hg c0
  go_wp2
  go_end0
  have hg : w1.grownBy (((w1.setCell ⟨rb, 1, none⟩ (.int .i64 t.k)).setCell ⟨rb, 2, none⟩ (.int .i64 t.at_)).setCell ⟨rb, 3, none⟩ (.string (R.str t.raw))) (some rb) :=
    grown_trans (grown_trans (grown_setCell _ _ _ _) (grown_setCell _ _ _ _)) (grown_setCell _ _ _ _)
  refine ⟨rfl, ?_, grown_trans (grown_wide HG.out _) hg⟩
  rw [HE.out]
  exact ⟨block_setCell (block_setCell (block_setCell J1.out.rd _) _) _, hlen, HTk.out⟩

def P.sees (st : P.St) (r : List UInt8) : Bool := !st.broken && decide (st.tok.raw = r)

set_option maxRecDepth 100000 in
set_option maxHeartbeats 1000000 in
theorem pro_sees {w : World} {rb : Nat} {s : ByteArray} {st : P.St} (h : PInv w rb s st) (r : ByteArray) :
    Calls Tryz.prog 147 #[.pointer (some ⟨rb, 0, none⟩), .string r] w fun e w' => e = .returned (.bool (P.sees st r.data.toList)) ∧ w.grownBy w' none := by
  have c3 : w.cell? ⟨rb, 3, none⟩ = some (.string (R.str st.tok.raw)) := cell_of_block h.rd
  have c4 : w.cell? ⟨rb, 4, none⟩ = some (.bool st.broken) := cell_of_block h.rd
  have HS : Hid (P.sees st r.data.toList = (!st.broken && decide (st.tok.raw = r.data.toList))) := rfl
  have hq : ((R.str st.tok.raw).toList == r.toList) = decide (st.tok.raw = r.data.toList) := by rw [ByteArray.toList_eq, ByteArray.toList_eq, R.str_toList, Bool.eq_iff_iff]; simp
  generalize decide (st.tok.raw = r.data.toList) = b3 at *
  cases hb : st.broken
  all_goals
    rw [hb] at HS c4
    go_enter Tryz.func147, Tryz.ntmps147
    go_wp2
    go_ret
    exact ⟨ret_bool (by rw [HS.out]; try rfl), grown_refl _ _⟩

/-- On to the next token, if this one fits. -/
def P.passS (l : List UInt8) (st : P.St) (fits : Bool) : P.St :=
  if fits = true ∧ st.broken = false then P.lookS l st (st.tok.at_ + st.tok.raw.length) else { st with broken := true }

set_option maxRecDepth 100000 in
set_option maxHeartbeats 1000000 in
theorem pro_pass {w : World} {rb : Nat} {s : ByteArray} {st : P.St} (h : PInv w rb s st) (fits : Bool) :
    Calls Tryz.prog 149 #[.pointer (some ⟨rb, 0, none⟩), .bool fits] w fun e w' => e = .returned (.bool (!(P.passS s.data.toList st fits).broken)) ∧ PInv w' rb s (P.passS s.data.toList st fits) ∧ w.grownBy w' (some rb) := by
  have c2 : w.cell? ⟨rb, 2, none⟩ = some (.int .i64 st.tok.at_) := cell_of_block h.rd
  have c3 : w.cell? ⟨rb, 3, none⟩ = some (.string (R.str st.tok.raw)) := cell_of_block h.rd
  have c4 : w.cell? ⟨rb, 4, none⟩ = some (.bool st.broken) := cell_of_block h.rd
  have f4 : w.frozen? ⟨rb, 4, none⟩ = false := frozen_of_block h.rd
  have hbd := h.bd
  have hlen := h.len
  have hsz : (R.str st.tok.raw).size = st.tok.raw.length := R.str_size _
  have HP : Hid (P.passS s.data.toList st fits = if fits = true ∧ st.broken = false then P.lookS s.data.toList st (st.tok.at_ + st.tok.raw.length) else { st with broken := true }) := rfl
  have H0 : Hid _ := h
  clear h
  generalize P.passS s.data.toList st fits = st' at *
  cases fits
  · rw [if_neg (by simp)] at HP
    go_enter Tryz.func149, Tryz.ntmps149
    go_wp2
    go_ret
    rw [HP.out]
    exact ⟨rfl, ⟨block_setCell H0.out.rd _, hlen, H0.out.tok⟩, grown_setCell _ _ _ _⟩
  · cases hb : st.broken
    · rw [if_pos ⟨rfl, hb⟩] at HP
      rw [hb] at c4
      have HL : Hid (∀ w, PInv w rb s st → Calls Tryz.prog 100 #[.pointer (some ⟨rb, 0, none⟩), .int .i64 (IntKind.i64.wrap ((st.tok.at_ : Int) + (st.tok.raw.length : Int)))] w fun e w' => e = .returned (.tuple #[]) ∧ PInv w' rb s st' ∧ w.grownBy w' (some rb)) := fun w h => by
        have := pro_look h (st.tok.at_ + st.tok.raw.length) hbd
        rw [← HP.out, Int.natCast_add] at this
        rw [IntWalk.i64_in _ ⟨by omega, by omega⟩]; exact this
      have HB : Hid (st'.broken = false) := by rw [HP.out]; exact hb
      clear hb
      go_enter Tryz.func149, Tryz.ntmps149
      go_wp2
      go_region_with (go_at_call 100; refine (HL.out _ (H0.out.keep (grown_drew w))).mono ?_; rintro e w1 ⟨rfl, I1, hg1⟩; have d4 : w1.cell? ⟨rb, 4, none⟩ = some (.bool st'.broken) := cell_of_block I1.rd; rw [HB.out] at d4)
      all_goals
        go_wp2
        go_ret
        rw [HB.out]
        exact ⟨rfl, I1, grown_trans (grown_wide (grown_drew w) _) hg1⟩
    · rw [if_neg (by rw [hb]; simp)] at HP
      rw [hb] at c4
      go_enter Tryz.func149, Tryz.ntmps149
      go_wp2
      go_ret
      have e : ({ st with broken := true } : P.St) = st := by cases st; simp at hb ⊢; exact hb
      rw [HP.out, e, hb]
      exact ⟨rfl, H0.out, grown_refl _ _⟩

def P.takeS (l : List UInt8) (st : P.St) (r : List UInt8) : P.St := P.passS l st (decide (st.tok.raw = r))
def P.endS (l : List UInt8) (st : P.St) : P.St := P.passS l st (st.tok.k == 0)

set_option maxRecDepth 100000 in
set_option maxHeartbeats 1000000 in
theorem pro_take {w : World} {rb : Nat} {s : ByteArray} {st : P.St} (h : PInv w rb s st) (r : ByteArray) :
    Calls Tryz.prog 206 #[.pointer (some ⟨rb, 0, none⟩), .string r] w fun e w' => e = .returned (.tuple #[]) ∧ PInv w' rb s (P.takeS s.data.toList st r.data.toList) ∧ w.grownBy w' (some rb) := by
  have c3 : w.cell? ⟨rb, 3, none⟩ = some (.string (R.str st.tok.raw)) := cell_of_block h.rd
  have hq : ((R.str st.tok.raw).toList == r.toList) = decide (st.tok.raw = r.data.toList) := by rw [ByteArray.toList_eq, ByteArray.toList_eq, R.str_toList, Bool.eq_iff_iff]; simp
  have HT : Hid (P.takeS s.data.toList st r.data.toList = P.passS s.data.toList st (decide (st.tok.raw = r.data.toList))) := rfl
  have H0 : Hid _ := h
  clear h
  generalize decide (st.tok.raw = r.data.toList) = b3 at *
  go_enter Tryz.func206, Tryz.ntmps206
  go_wp2_with fail
  refine (pro_pass H0.out b3).mono ?_
  rintro e w1 ⟨rfl, I1, hg1⟩
  go_wp2
  go_end0
  exact ⟨rfl, by rw [HT.out]; exact I1, hg1⟩

set_option maxRecDepth 100000 in
set_option maxHeartbeats 1000000 in
theorem pro_takeEnd {w : World} {rb : Nat} {s : ByteArray} {st : P.St} (h : PInv w rb s st) :
    Calls Tryz.prog 102 #[.pointer (some ⟨rb, 0, none⟩)] w fun e w' => e = .returned (.tuple #[]) ∧ PInv w' rb s (P.endS s.data.toList st) ∧ w.grownBy w' (some rb) := by
  have c1 : w.cell? ⟨rb, 1, none⟩ = some (.int .i64 st.tok.k) := cell_of_block h.rd
  have HT : Hid (P.endS s.data.toList st = P.passS s.data.toList st (st.tok.k == 0)) := rfl
  have H0 : Hid _ := h
  clear h
  go_enter Tryz.func102, Tryz.ntmps102
  go_wp2_with fail
  refine (pro_pass H0.out (st.tok.k == 0)).mono ?_
  rintro e w1 ⟨rfl, I1, hg1⟩
  go_wp2
  go_end0
  exact ⟨rfl, by rw [HT.out]; exact I1, hg1⟩

end Go.Proofs.YtfocdefchbnkpaaGreatDoor
