/- The tokens of a text, as the program finds them from a place on. -/
import Derived.Test.YtfocdefchbnkpaaGreatDoorProA
import Derived.Test.YtfocdefchbnkpaaGreatDoorRefF
import Derived.Lib.IndexMore
import Derived.Test.YtfocdefchbnkpaaGreatDoorShelf
namespace Go.Proofs.YtfocdefchbnkpaaGreatDoor
open Go.RowKit

structure P.Tk where
  k : Int
  at_ : Nat
  raw : List UInt8

/-- A number's length and kind. -/
def P.measureN (l : List UInt8) : Nat × Int := if 5 < R.span R.digitI l then (0, 5) else (R.span R.digitI l, 2)
/-- A string's, from behind its first quote on: what is inside. -/
theorem idx_cons (c : UInt8) (r : List UInt8) (x : UInt8) : Lib.index (c :: r) [x] = if c = x then 0 else if Lib.index r [x] = -1 then -1 else Lib.index r [x] + 1 := by
  rw [Lib.index]
  by_cases h : c = x
  · subst h; rw [if_pos (by simp [List.isPrefixOf]), if_pos rfl]
  · rw [if_neg (by simp [List.isPrefixOf]; exact fun e => h e.symm), if_neg h]
    by_cases h2 : Lib.index r [x] = -1
    · rw [if_pos (by rw [h2]; rfl), if_pos h2]
    · rw [if_neg (by rw [beq_iff_eq]; exact h2), if_neg h2]
theorem P.idx_byte (l : List UInt8) (x : UInt8) : Lib.indexByte l x = Lib.index l [x] := by
  induction l with
  | nil => rfl
  | cons c r ih =>
    rw [idx_cons, Lib.indexByte, ih]
    by_cases h : c = x
    · rw [if_pos (by rw [h]; simp), if_pos h]
    · rw [if_neg (by simpa using h), if_neg h]
      by_cases h2 : Lib.index r [x] = -1
      · rw [if_pos (by rw [h2]; rfl), if_pos h2]
      · rw [if_neg (by simpa using h2), if_neg h2]
def P.strBad (t : List UInt8) : Bool := !(Lib.cut t [34]).2.2 || (decide (24 < (Lib.cut t [34]).1.length) || Lib.contains (Lib.cut t [34]).1 [10])
def P.measureS (l : List UInt8) : Nat × Int := if P.strBad (l.drop 1) then (0, 5) else ((Lib.cut (l.drop 1) [34]).1.length + 2, 3)
def P.measure (l : List UInt8) : Nat × Int :=
  match l with
  | [] => (0, 0)
  | c :: _ =>
    if R.smallI c.toNat then (R.span R.smallI l, 1)
    else if R.digitI c.toNat then P.measureN l
    else if c.toNat = 34 then P.measureS l
    else if R.signI c.toNat then (1, 4) else (0, 5)
def P.placeFrom (l : List UInt8) (p : Nat) : Nat := p + R.span P.blankI (l.drop p)
def P.tokenFrom (l : List UInt8) (p : Nat) : P.Tk :=
  ⟨(P.measure (l.drop (P.placeFrom l p))).2, P.placeFrom l p, (l.drop (P.placeFrom l p)).take (P.measure (l.drop (P.placeFrom l p))).1⟩

theorem P.cut_len (t : List UInt8) : (Lib.cut t [34]).1.length ≤ t.length := by
  unfold Lib.cut; split
  · simp only [List.length_take]; omega
  · exact Nat.le_refl _
theorem P.cut_room (t : List UInt8) (h : (Lib.cut t [34]).2.2 = true) : (Lib.cut t [34]).1.length + 1 ≤ t.length := by
  unfold Lib.cut at h ⊢
  split
  · rename_i h0
    have := Lib.index_room t [34] h0
    simp only [List.length_take, List.length_cons, List.length_nil] at this ⊢
    omega
  · rename_i h0; rw [if_neg h0] at h; simp at h
theorem P.measure_le (l : List UInt8) : (P.measure l).1 ≤ l.length := by
  unfold P.measure
  match l with
  | [] => simp
  | c :: r =>
    simp only
    have h1 := R.span_le R.smallI (c :: r)
    have h2 := R.span_le R.digitI (c :: r)
    split
    · exact h1
    · split
      · unfold P.measureN; split
        · simp
        · exact h2
      · split
        · unfold P.measureS; split
          · simp
          · rename_i hb
            have : (Lib.cut r [34]).2.2 = true := by
              unfold P.strBad at hb; simp at hb; exact hb.1
            have := P.cut_room r this
            simp only [List.drop_succ_cons, List.drop_zero, List.length_cons]; omega
        · split <;> simp

set_option maxRecDepth 100000 in
set_option maxHeartbeats 1000000 in
theorem pro_measureNumber (s : ByteArray) (w : World) (hs : s.size ≤ maxLen) :
    Calls Tryz.prog 262 #[.string s] w fun e w' => e = .returned (.tuple #[.int .i64 (P.measureN s.data.toList).1, .int .i64 (P.measureN s.data.toList).2]) ∧ w' = w := by
  have HM : Hid (P.measureN s.data.toList = if 5 < R.span R.digitI s.data.toList then (0, 5) else (R.span R.digitI s.data.toList, 2)) := rfl
  have HR := fun w => pro_Run_digit s w hs
  have HRun : Hid _ := HR
  clear HR
  generalize R.span R.digitI s.data.toList = n at *
  by_cases h5 : 5 < n
  · rw [if_pos h5] at HM
    go_enter Tryz.func262, Tryz.ntmps262
    go_wp2_with fail
    refine (HRun.out _).mono ?_
    rintro e wX ⟨rfl, hwX⟩
    rw [hwX]
    clear hwX wX
    go_wp2
    go_ret2
    exact ⟨by rw [HM.out]; rfl, rfl⟩
  · rw [if_neg h5] at HM
    go_enter Tryz.func262, Tryz.ntmps262
    go_wp2_with fail
    refine (HRun.out _).mono ?_
    rintro e wX ⟨rfl, hwX⟩
    rw [hwX]
    clear hwX wX
    go_wp2
    go_ret2
    exact ⟨by rw [HM.out]; rfl, rfl⟩

theorem ret_cut {a b c d : ByteArray} {e : Bool} (h : a = c) (h2 : b = d) : Ending.returned (.tuple #[.string a, .string b, .bool e]) = .returned (.tuple #[.string c, .string d, .bool e]) := by rw [h, h2]

set_option maxRecDepth 100000 in
set_option maxHeartbeats 1000000 in
theorem pro_cut_lite (s : ByteArray) (w : World) (hs : s.size ≤ maxLen) :
    Calls Tryz.prog 308 #[.string s, .string ⟨#[34]⟩] w fun e w' => e = .returned (.tuple #[.string (R.str (Lib.cut s.data.toList [34]).1), .string (R.str (Lib.cut s.data.toList [34]).2.1), .bool (Lib.cut s.data.toList [34]).2.2]) ∧ w.grownBy w' none := by
  have HC : Hid (Lib.cut s.data.toList [34] = if 0 ≤ Lib.index s.data.toList [34] then (s.data.toList.take (Lib.index s.data.toList [34]).toNat, s.data.toList.drop ((Lib.index s.data.toList [34]).toNat + 1), true) else (s.data.toList, [], false)) := rfl
  have hroom : 0 ≤ Lib.index s.data.toList [34] → Lib.index s.data.toList [34] + 1 ≤ s.size := fun h => by
    have := Lib.index_room s.data.toList [34] h
    rw [R.size_eq] at this; simpa using this
  have HI : Hid (∀ w, Calls Tryz.prog 364 #[.string s, .string ⟨#[34]⟩] w fun e w' => e = .returned (.int .i64 (Lib.index s.data.toList [34])) ∧ w' = w) := fun w => by
    rw [← P.idx_byte]; exact Tryz.stringslite_Index_one s 34 w
  unfold maxLen at hs
  generalize Lib.index s.data.toList [34] = k at *
  by_cases h0 : 0 ≤ k
  · rw [if_pos h0] at HC
    obtain ⟨n, rfl⟩ := Int.eq_ofNat_of_zero_le h0
    have hr := hroom h0
    clear hroom
    go_enter Tryz.func308, Tryz.ntmps308
    go_wp2_with fail
    refine (HI.out _).mono ?_
    rintro e wX ⟨rfl, hwX⟩
    rw [hwX]
    clear hwX wX
    go_wp2
    go_region
    go_wp2
    go_ret3
    exact ⟨by rw [HC.out]; exact ret_cut (by rw [ext_str, Nat.sub_zero, List.drop_zero]; rfl) (by rw [ext_str, ← R.size_eq, List.take_of_length_le (by rw [List.length_drop]; omega)]; rfl), grown_drew _⟩
  · rw [if_neg h0] at HC
    clear hroom
    go_enter Tryz.func308, Tryz.ntmps308
    go_wp2_with fail
    refine (HI.out _).mono ?_
    rintro e wX ⟨rfl, hwX⟩
    rw [hwX]
    clear hwX wX
    go_wp2
    go_ret3
    exact ⟨by rw [HC.out, R.str_of]; rfl, grown_refl _ _⟩

set_option maxRecDepth 100000 in
set_option maxHeartbeats 1000000 in
theorem pro_cut (s : ByteArray) (w : World) (hs : s.size ≤ maxLen) :
    Calls Tryz.prog 238 #[.string s, .string ⟨#[34]⟩] w fun e w' => e = .returned (.tuple #[.string (R.str (Lib.cut s.data.toList [34]).1), .string (R.str (Lib.cut s.data.toList [34]).2.1), .bool (Lib.cut s.data.toList [34]).2.2]) ∧ w.grownBy w' none := by
  have HC : Hid _ := fun w => pro_cut_lite s w hs
  generalize Lib.cut s.data.toList [34] = c at *
  go_enter Tryz.func238, Tryz.ntmps238
  go_wp2_with fail
  refine (HC.out _).mono ?_
  rintro e wX ⟨rfl, hg⟩
  go_wp2
  go_ret3
  exact ⟨rfl, hg⟩

set_option maxRecDepth 100000 in
set_option maxHeartbeats 1000000 in
theorem pro_measureString (s : ByteArray) (w : World) (hs : s.size ≤ 1000000000000) (h1 : 1 ≤ s.size) :
    Calls Tryz.prog 263 #[.string s] w fun e w' => e = .returned (.tuple #[.int .i64 (P.measureS s.data.toList).1, .int .i64 (P.measureS s.data.toList).2]) ∧ w.grownBy w' none := by
  have hx : (s.extract 1 s.size).data.toList = s.data.toList.drop 1 := ext_rest s 1
  have hxs : (s.extract 1 s.size).size ≤ maxLen := by rw [← R.size_eq, hx, List.length_drop, R.size_eq]; unfold maxLen; omega
  have HC := fun w => pro_cut (s.extract 1 s.size) w hxs
  rw [hx] at HC
  have HCut : Hid _ := HC
  have HM : Hid (P.measureS s.data.toList = if P.strBad (s.data.toList.drop 1) then (0, 5) else ((Lib.cut (s.data.toList.drop 1) [34]).1.length + 2, 3)) := rfl
  have HB : Hid (P.strBad (s.data.toList.drop 1) = (!(Lib.cut (s.data.toList.drop 1) [34]).2.2 || (decide (24 < (Lib.cut (s.data.toList.drop 1) [34]).1.length) || Lib.contains (Lib.cut (s.data.toList.drop 1) [34]).1 [10]))) := rfl
  have hlen := P.cut_len (s.data.toList.drop 1)
  rw [List.length_drop, R.size_eq] at hlen
  clear HC hx hxs
  generalize Lib.cut (s.data.toList.drop 1) [34] = c at *
  obtain ⟨ins, rest, closed⟩ := c
  simp only at HB HM hlen
  have hsz : (R.str ins).size = ins.length := R.str_size ins
  have HCo : Hid (∀ w, Calls Tryz.prog 322 #[.string (R.str ins), .string ⟨#[10]⟩] w fun e w' => e = .returned (.bool (Lib.contains ins [10])) ∧ w' = w) := fun w => by
    have := Tryz.strings_Contains_one (R.str ins) 10 w
    rw [R.str_toList, P.idx_byte] at this; exact this
  cases closed
  · rw [HB.out] at HM
    simp only [Bool.not_false, Bool.true_or, if_true] at HM
    go_enter Tryz.func263, Tryz.ntmps263
    go_wp2_with fail
    refine (HCut.out _).mono ?_
    rintro e w1 ⟨rfl, hg⟩
    go_wp2
    go_ret2
    exact ⟨by rw [HM.out]; rfl, hg⟩
  · by_cases h24 : 24 < ins.length
    · rw [HB.out, decide_eq_true h24] at HM
      simp only [Bool.not_true, Bool.true_or, Bool.or_true, if_true] at HM
      go_enter Tryz.func263, Tryz.ntmps263
      go_wp2_with fail
      refine (HCut.out _).mono ?_
      rintro e w1 ⟨rfl, hg⟩
      go_wp2
      go_ret2
      exact ⟨by rw [HM.out]; rfl, hg⟩
    · rw [HB.out, decide_eq_false h24] at HM
      simp only [Bool.not_true, Bool.false_or] at HM
      cases hco : Lib.contains ins [10]
      · rw [hco] at HM HCo
        simp only [Bool.false_eq_true, if_false] at HM
        go_enter Tryz.func263, Tryz.ntmps263
        go_wp2_with fail
        refine (HCut.out _).mono ?_
        rintro e w1 ⟨rfl, hg⟩
        go_wp2_with fail
        refine (HCo.out _).mono ?_
        rintro e wX ⟨rfl, hwX⟩
        rw [hwX]
        clear hwX wX
        go_wp2
        go_ret2
        exact ⟨by rw [HM.out]; rfl, hg⟩
      · rw [hco] at HM HCo
        simp only [if_true] at HM
        go_enter Tryz.func263, Tryz.ntmps263
        go_wp2_with fail
        refine (HCut.out _).mono ?_
        rintro e w1 ⟨rfl, hg⟩
        go_wp2_with fail
        refine (HCo.out _).mono ?_
        rintro e wX ⟨rfl, hwX⟩
        rw [hwX]
        clear hwX wX
        go_wp2
        go_ret2
        exact ⟨by rw [HM.out]; rfl, hg⟩

end Go.Proofs.YtfocdefchbnkpaaGreatDoor
