/- More of the small functions of the document's own reading of a policy: Path, Value, Named, Lower, Header, quote, decimal: each returns what its plain twin computes. -/
import Derived.Test.YtfocdefchbnkpaaGreatDoorRefA
import Derived.Lib.Strings
namespace Go.Proofs.YtfocdefchbnkpaaGreatDoor
open Go.RowKit

theorem head_eq (s : ByteArray) (h : 0 < s.size) : s.data.toList.head? = some s[0] := by
  have := R.drop_cons s 0 h
  simp only [List.drop_zero] at this
  rw [this]; rfl
theorem last_eq (s : ByteArray) (h : 0 < s.size) : s.data.toList.getLast? = some s[s.size - 1] := by
  rw [List.getLast?_eq_getElem?, R.size_eq, List.getElem?_eq_getElem (by rw [R.size_eq]; omega)]; rfl
theorem u8_eq (c : UInt8) (n : UInt8) : decide (some c = some n) = ((c.toNat : Int) == n.toNat) := by
  rw [Bool.eq_iff_iff]; simp; exact ⟨fun h => by rw [h], fun h => UInt8.toNat_inj.1 (by omega)⟩

set_option maxHeartbeats 1000000 in
theorem ref_Path (s : ByteArray) (w : World) (hs : s.size ≤ maxLen) :
    Calls Tryz.prog 189 #[.string s] w fun e w' => e = .returned (.bool (R.path s.data.toList)) ∧ w' = w := by
  unfold maxLen at hs
  go_enter Tryz.func189, Tryz.ntmps189
  go_wp2
  go_loop [3] (fun i => ∃ k : Nat, k ≤ s.size ∧ i = .int .i64 k ∧ Hid (R.allB R.pathI (s.data.toList.take k) = true)) (fun i => s.size - (intOf i).toNat)
  case atStart => exact ⟨0, Nat.zero_le _, rfl, rfl⟩
  case round =>
    obtain ⟨k, hk, rfl, HL⟩ := hrel
    by_cases hlt : k < s.size
    · have HN : Hid (R.pathI s[k].toNat = false → R.path s.data.toList = false) := by
        intro h; unfold R.path; rw [R.all_false hlt h]; rfl
      have HY : Hid (R.pathI s[k].toNat = true → R.allB R.pathI (s.data.toList.take (k + 1)) = true) := fun h => R.all_succ hlt HL.out h
      clear HL
      generalize hb : s[k] = b at *
      by_cases hp : 33 ≤ (b.toNat : Int) ∧ (b.toNat : Int) ≤ 126 ∧ (b.toNat : Int) ≠ 63 ∧ (b.toNat : Int) ≠ 35 ∧ (b.toNat : Int) ≠ 34
      · have H4 : Hid (R.allB R.pathI (s.data.toList.take (k + 1)) = true) := HY.out (by unfold R.pathI; exact decide_eq_true hp)
        obtain ⟨p1, p2, p3, p4, p5⟩ := hp
        have g3 : ((b.toNat : Int) == 63) = false := by simp; omega
        have g4 : ((b.toNat : Int) == 35) = false := by simp; omega
        have g5 : ((b.toNat : Int) == 34) = false := by simp; omega
        clear p3 p4 p5 HN HY
        go_wp2
        exact ⟨⟨k + 1, by omega, by go_num, H4⟩, by simp [intOf]; omega⟩
      · have H3 : Hid (R.path s.data.toList = false) := HN.out (by unfold R.pathI; exact decide_eq_false hp)
        clear HN HY
        go_wp2
        all_goals first | (go_ret; exact ⟨ret_bool H3.out.symm, rfl⟩) | (exfalso; apply hp; simp_all; omega) | (exfalso; apply hp; simp_all; done)
    · have H3 : Hid (R.path s.data.toList = (decide (0 < s.size) && decide (s.data.toList.head? = some 47))) := by
        show R.path s.data.toList = _
        unfold R.path; rw [R.all_done (by omega) HL.out, R.size_eq]; rfl
      clear HL
      by_cases h0 : 0 < s.size
      · have H4 : Hid (R.path s.data.toList = ((s[0].toNat : Int) == 47)) := by
          have := H3.out; rw [head_eq s h0, u8_eq, decide_eq_true h0] at this; exact this
        go_wp2
        go_ret
        exact ⟨ret_bool (by rw [H4.out]), rfl⟩
      · have H4 : Hid (R.path s.data.toList = false) := by
          have := H3.out; rw [decide_eq_false h0] at this; exact this
        go_wp2
        go_ret
        exact ⟨ret_bool (by rw [H4.out]), rfl⟩

set_option maxHeartbeats 1000000 in
theorem ref_Value (s : ByteArray) (w : World) (hs : s.size ≤ maxLen) :
    Calls Tryz.prog 249 #[.string s] w fun e w' => e = .returned (.bool (R.value s.data.toList)) ∧ w' = w := by
  unfold maxLen at hs
  go_enter Tryz.func249, Tryz.ntmps249
  go_wp2
  go_loop [3] (fun i => ∃ k : Nat, k ≤ s.size ∧ i = .int .i64 k ∧ Hid (R.allB R.valueI (s.data.toList.take k) = true)) (fun i => s.size - (intOf i).toNat)
  case atStart => exact ⟨0, Nat.zero_le _, rfl, rfl⟩
  case round =>
    obtain ⟨k, hk, rfl, HL⟩ := hrel
    by_cases hlt : k < s.size
    · have HN : Hid (R.valueI s[k].toNat = false → R.value s.data.toList = false) := by
        intro h; unfold R.value; rw [R.all_false hlt h]; rfl
      have HY : Hid (R.valueI s[k].toNat = true → R.allB R.valueI (s.data.toList.take (k + 1)) = true) := fun h => R.all_succ hlt HL.out h
      clear HL
      generalize hb : s[k] = b at *
      by_cases hp : 32 ≤ (b.toNat : Int) ∧ (b.toNat : Int) ≤ 126 ∧ (b.toNat : Int) ≠ 34
      · have H4 : Hid (R.allB R.valueI (s.data.toList.take (k + 1)) = true) := HY.out (by unfold R.valueI; exact decide_eq_true hp)
        obtain ⟨p1, p2, p5⟩ := hp
        have g5 : ((b.toNat : Int) == 34) = false := by simp; omega
        clear p5 HN HY
        go_wp2
        exact ⟨⟨k + 1, by omega, by go_num, H4⟩, by simp [intOf]; omega⟩
      · have H3 : Hid (R.value s.data.toList = false) := HN.out (by unfold R.valueI; exact decide_eq_false hp)
        clear HN HY
        go_wp2
        all_goals first | (go_ret; exact ⟨ret_bool H3.out.symm, rfl⟩) | (exfalso; apply hp; simp_all; omega) | (exfalso; apply hp; simp_all; done)
    · have H3 : Hid (R.value s.data.toList = (decide (s.size = 0) || (decide (s.data.toList.head? ≠ some 32) && decide (s.data.toList.getLast? ≠ some 32)))) := by
        show R.value s.data.toList = _
        unfold R.value; rw [R.all_done (by omega) HL.out, R.size_eq]; rfl
      clear HL
      by_cases h0 : 0 < s.size
      · have H4 : Hid (R.value s.data.toList = (((s[0].toNat : Int) != 32) && ((s[s.size - 1].toNat : Int) != 32))) := by
          have := H3.out; rw [head_eq s h0, last_eq s h0, decide_not, decide_not, u8_eq, u8_eq, decide_eq_false (show ¬ s.size = 0 by omega)] at this; exact this
        have hz : ((s.size : Int) == 0) = false := by rw [beq_eq_false_iff_ne]; omega
        cases h1 : ((s[0].toNat : Int) != 32)
        all_goals
          go_wp2
          go_ret
          exact ⟨ret_bool (by rw [H4.out, h1]; try rfl), rfl⟩
      · have H4 : Hid (R.value s.data.toList = true) := by
          have := H3.out; rw [decide_eq_true (show s.size = 0 by omega)] at this; exact this
        have hz : ((s.size : Int) == 0) = true := by rw [beq_iff_eq]; omega
        go_wp2
        go_ret
        exact ⟨ret_bool (by rw [H4.out]), rfl⟩

theorem toL (s : ByteArray) (l : List UInt8) : (s.toList == l) = decide (s.data.toList = l) := by
  rw [ByteArray.toList_eq, Bool.eq_iff_iff]; simp
theorem ext_data (s : ByteArray) (a b : Nat) : (s.extract a b).data.toList = (s.data.toList.drop a).take (b - a) := Lib.extract_data s a b
theorem ext_rest (s : ByteArray) (a : Nat) : (s.extract a s.size).data.toList = s.data.toList.drop a := by
  rw [ext_data, List.take_of_length_le (by rw [List.length_drop, R.size_eq]; omega)]
theorem ext_head (s : ByteArray) (b : Nat) : (s.extract 0 b).data.toList = s.data.toList.take b := by
  rw [ext_data]; simp

set_option maxHeartbeats 1000000 in
theorem ref_Named (s : ByteArray) (lg : Bool) (w : World) (hs : s.size ≤ maxLen) :
    Calls Tryz.prog 87 #[.string s, .bool lg] w fun e w' => e = .returned (.bool (R.named s.data.toList lg)) ∧ w' = w := by
  have hs2 := hs
  unfold maxLen at hs
  by_cases h1 : s.data.toList = [42]
  · have H : Hid (R.named s.data.toList lg = true) := by show R.named s.data.toList lg = true; unfold R.named; rw [if_pos h1]
    have g1 : (s.toList == [42]) = true := by rw [toL]; exact decide_eq_true h1
    clear h1
    go_enter Tryz.func87, Tryz.ntmps87
    go_wp2
    go_ret
    exact ⟨ret_bool H.out.symm, rfl⟩
  · have g1 : (s.toList == [42]) = false := by rw [toL]; exact decide_eq_false h1
    by_cases h2 : s.data.toList.take 2 = [42, 46] ∧ 2 < s.data.toList.length
    · have H : Hid (R.named s.data.toList lg = R.labels (s.data.toList.drop 2) lg) := by show R.named s.data.toList lg = _; unfold R.named; rw [if_neg h1, if_pos h2]
      have g2 : ((s.extract 0 2).toList == [42, 46]) = true := by rw [toL, ext_head]; exact decide_eq_true h2.1
      have g3 : 2 < (s.size : Int) := by have := h2.2; rw [R.size_eq] at this; omega
      clear h1 h2
      go_enter Tryz.func87, Tryz.ntmps87
      have hs3 : (s.extract 2 s.size).size ≤ maxLen := by rw [← R.size_eq, ext_rest, List.length_drop, R.size_eq]; omega
      go_wp2_with (go_at_call 131; refine (ref_Labels _ _ _ hs3).mono ?_; rintro e w' ⟨rfl, rfl⟩)
      go_ret
      exact ⟨ret_bool (by rw [H.out, List.take_of_length_le (by rw [List.length_drop, R.size_eq]; omega)]), rfl⟩
    · have H : Hid (R.named s.data.toList lg = R.labels s.data.toList lg) := by show R.named s.data.toList lg = _; unfold R.named; rw [if_neg h1, if_neg h2]
      have g2 : ¬ (((s.extract 0 2).toList == [42, 46]) = true ∧ 2 < (s.size : Int)) := by
        rw [toL, ext_head, decide_eq_true_iff]; intro h; exact h2 ⟨h.1, by rw [R.size_eq]; omega⟩
      clear h1 h2
      by_cases g3 : 2 < (s.size : Int)
      · have g4 : ((s.extract 0 2).toList == [42, 46]) = false := by rw [Bool.eq_false_iff]; exact fun h => g2 ⟨h, g3⟩
        clear g2
        go_enter Tryz.func87, Tryz.ntmps87
        go_wp2_with (go_at_call 131; refine (ref_Labels _ _ _ hs2).mono ?_; rintro e w' ⟨rfl, rfl⟩)
        go_ret
        exact ⟨ret_bool H.out.symm, rfl⟩
      · clear g2
        go_enter Tryz.func87, Tryz.ntmps87
        go_wp2_with (go_at_call 131; refine (ref_Labels _ _ _ hs2).mono ?_; rintro e w' ⟨rfl, rfl⟩)
        go_ret
        exact ⟨ret_bool H.out.symm, rfl⟩

theorem str_ext {a b : ByteArray} (h : a.data.toList = b.data.toList) : a = b := by
  rw [← R.str_of a, ← R.str_of b, h]
theorem app_data (a b : ByteArray) : (a ++ b).data.toList = a.data.toList ++ b.data.toList := by
  rw [ByteArray.data_append, Array.toList_append]
theorem ret_str {a b : ByteArray} (h : a = b) : Ending.returned (.string a) = .returned (.string b) := by rw [h]

set_option maxHeartbeats 1000000 in
theorem ref_quote (s : ByteArray) (w : World) (hs : s.size ≤ 100000) :
    Calls Tryz.prog 54 #[.string s] w fun e w' => e = .returned (.string (R.str (34 :: s.data.toList ++ [34]))) ∧ w' = w := by
  go_enter Tryz.func54, Tryz.ntmps54
  go_wp2
  go_ret
  exact ⟨ret_str (by apply str_ext; rw [R.str_toList, app_data, app_data]; rfl), rfl⟩

/-- One byte, in a list of its own, as a string. -/
theorem conv_one (w : World) (n : Int) :
    (convert 32 9 (.slice (some ⟨w.heap.size, 0, none⟩) 1 1)).run Tryz.prog (w.alloc (.cells #[.int .u8 n] 5)) = .ok (.string ⟨#[UInt8.ofNat n.toNat]⟩) (w.alloc (.cells #[.int .u8 n] 5)) := by
  have h := run_convert_bytes_arg (P := Tryz.prog) (w.alloc (.cells #[.int .u8 n] 5)) 32 5 Tryz.underlying32 Tryz.underlying5 w.heap.size 0 1 1 [n] rfl (fun i hi => by
    have : i = 0 := by omega
    subst this
    rw [World.cell?_alloc_new]; rfl)
  have h2 := h 9 Tryz.underlying9
  rw [h2]; rfl

set_option maxRecDepth 100000 in
set_option maxHeartbeats 1000000 in
theorem ref_Lower (s : ByteArray) (w : World) (hs : s.size ≤ 100000) :
    Calls Tryz.prog 88 #[.string s] w fun e w' => e = .returned (.string (R.str (R.lower s.data.toList))) ∧ Below w.heap.size w w' := by
  go_enter Tryz.func88, Tryz.ntmps88
  go_wp2
  go_loopw [3, 4] (fun o i w' => ∃ k : Nat, k ≤ s.size ∧ i = .int .i64 k ∧ o = .string (R.str (R.lower (s.data.toList.take k))) ∧ Below w.heap.size w w') (fun _ i _ => s.size - (intOf i).toNat)
  case atStart => exact ⟨0, Nat.zero_le _, rfl, rfl, Below.refl _ _⟩
  case round =>
    obtain ⟨k, hk, rfl, rfl, hb⟩ := hrel
    by_cases hlt : k < s.size
    · have ho : (R.str (R.lower (s.data.toList.take k))).size ≤ 100000 := by rw [R.str_size]; unfold R.lower; rw [List.length_map, List.length_take]; omega
      have HO : Hid (R.lower (s.data.toList.take (k + 1)) = R.lower (s.data.toList.take k) ++ [R.lowC s[k]]) := by
        show R.lower _ = _
        rw [R.take_snoc s k hlt]; unfold R.lower; rw [List.map_append]; rfl
      generalize hO : R.str (R.lower (s.data.toList.take k)) = o at *
      have HE : Hid (R.str (R.lower (s.data.toList.take k)) = o) := hO
      clear hO
      have hcv := conv_one wr
      generalize hbk : s[k] = b at *
      have hend : ∀ n : Int, UInt8.ofNat n.toNat = R.lowC b → Value.string (o ++ ⟨#[UInt8.ofNat n.toNat]⟩) = .string (R.str (R.lower (s.data.toList.take (k + 1)))) := by
        intro n hn
        rw [HO.out]; congr 1; apply str_ext; rw [app_data, ← HE.out, R.str_toList, R.str_toList, hn]
      by_cases hp : 65 ≤ (b.toNat : Int) ∧ (b.toNat : Int) ≤ 90
      · have he := hend (b.toNat + 32) (by unfold R.lowC R.largeI; rw [decide_eq_true hp.1, decide_eq_true hp.2]; simp; apply UInt8.toNat_inj.1; simp; omega)
        have He : Hid _ := he
        obtain ⟨p1, p2⟩ := hp
        clear hend he
        go_wp2
        exact ⟨⟨k + 1, by omega, by go_num, He, hb.alloc hb.size _⟩, by simp [intOf]; omega⟩
      · have he := hend b.toNat (by unfold R.lowC R.largeI; rw [← Bool.decide_and, decide_eq_false hp]; simp)
        have He : Hid (Value.string (o ++ ⟨#[b]⟩) = .string (R.str (R.lower (s.data.toList.take (k + 1))))) := by
          rw [Int.toNat_natCast, UInt8.ofNat_toNat] at he; exact he
        clear hend he
        by_cases p1 : 65 ≤ (b.toNat : Int)
        · go_wp2
          exact ⟨⟨k + 1, by omega, by go_num, He, hb.alloc hb.size _⟩, by simp [intOf]; omega⟩
        · go_wp2
          exact ⟨⟨k + 1, by omega, by go_num, He, hb.alloc hb.size _⟩, by simp [intOf]; omega⟩
    · go_wp2
      go_ret
      exact ⟨ret_str (by rw [List.take_of_length_le (by rw [R.size_eq]; omega)]), hb⟩

theorem lower_len (l : List UInt8) : (R.lower l).length = l.length := List.length_map _
theorem toLs (l m : List UInt8) : ((R.str l).toList == m) = decide (l = m) := by rw [toL, R.str_toList]

set_option maxRecDepth 100000 in
set_option maxHeartbeats 1000000 in
theorem ref_Header (s : ByteArray) (lg : Bool) (w : World) (hs : s.size ≤ 100000) :
    Calls Tryz.prog 248 #[.string s, .bool lg] w fun e w' => e = .returned (.bool (R.header s.data.toList lg)) ∧ Below w.heap.size w w' := by
  have hs2 : s.size ≤ maxLen := by unfold maxLen; omega
  have HH : Hid (R.header s.data.toList lg = (R.word s.data.toList lg && (!decide (R.lower s.data.toList = R.host) && (!decide (R.lower s.data.toList = R.contentLength) && !decide (R.lower s.data.toList = R.transferEncoding))))) := by
    show R.header s.data.toList lg = _
    unfold R.header; rw [decide_not, decide_not, decide_not]
  have e1 := toLs (R.lower s.data.toList) R.host
  have e2 := toLs (R.lower s.data.toList) R.contentLength
  have e3 := toLs (R.lower s.data.toList) R.transferEncoding
  generalize decide (R.lower s.data.toList = R.host) = b1 at *
  generalize decide (R.lower s.data.toList = R.contentLength) = b2 at *
  generalize decide (R.lower s.data.toList = R.transferEncoding) = b3 at *
  unfold R.host at e1
  unfold R.contentLength at e2
  unfold R.transferEncoding at e3
  generalize hl : R.str (R.lower s.data.toList) = o at *
  cases hw : R.word s.data.toList lg <;> cases b1 <;> cases b2
  all_goals
    rw [hw] at HH
    go_enter Tryz.func248, Tryz.ntmps248
    go_wp2_with (first
      | (go_at_call 313; refine (ref_Word _ _ _ hs2).mono ?_; rintro e w' ⟨rfl, rfl⟩)
      | (go_at_call 88; refine (ref_Lower _ _ hs).mono ?_; rintro e w' ⟨rfl, hb⟩))
    go_ret
    exact ⟨ret_bool (by rw [HH.out]; try rfl), hb⟩

theorem digit_str (n : Nat) (h : n < 10) : (⟨#[48, 49, 50, 51, 52, 53, 54, 55, 56, 57]⟩ : ByteArray).extract n (n + 1) = R.str [UInt8.ofNat (48 + n)] := by
  have : ∀ m : Fin 10, (⟨#[48, 49, 50, 51, 52, 53, 54, 55, 56, 57]⟩ : ByteArray).extract m.val (m.val + 1) = R.str [UInt8.ofNat (48 + m.val)] := by decide +kernel
  exact this ⟨n, h⟩

/-- A number in digits. -/
def R.dec (n : Nat) : List UInt8 := if n < 10 then [UInt8.ofNat (48 + n)] else R.dec (n / 10) ++ [UInt8.ofNat (48 + n % 10)]
  termination_by n
  decreasing_by omega

theorem R.dec_len (n k : Nat) (h : n < 10 ^ (k + 1)) : (R.dec n).length ≤ k + 1 := by
  induction k generalizing n with
  | zero => unfold R.dec; rw [if_pos (by omega)]; simp
  | succ k ih =>
    unfold R.dec
    split
    · simp
    · rw [List.length_append]
      have := ih (n / 10) (by rw [Nat.div_lt_iff_lt_mul (by omega)]; rw [Nat.pow_succ] at h; exact h)
      simp; omega

set_option maxRecDepth 100000 in
set_option maxHeartbeats 1000000 in
theorem ref_decimal (n : Nat) : ∀ (w : World), n < 1000000 →
    Calls Tryz.prog 91 #[.int .i64 n] w fun e w' => e = .returned (.string (R.str (R.dec n))) ∧ w' = w := by
  induction n using Nat.strongRecOn with
  | _ n ih =>
    intro w hn
    have hd := digit_str (n % 10) (by omega)
    have HD : Hid _ := hd
    clear hd
    by_cases h : n < 10
    · go_enter Tryz.func91, Tryz.ntmps91
      go_wp2
      go_ret
      exact ⟨ret_str (by rw [HD.out]; unfold R.dec; rw [if_pos h, Nat.mod_eq_of_lt h]), rfl⟩
    · have HI : Hid (∀ w, Calls Tryz.prog 91 #[.int .i64 ((n : Int) / 10)] w fun e w' => e = .returned (.string (R.str (R.dec (n / 10)))) ∧ w' = w) := by
        intro w
        have := ih (n / 10) (by omega) w (by omega)
        rw [Int.natCast_ediv] at this
        exact this
      have z1 : (R.str (R.dec (n / 10))).size ≤ 100 := by
        rw [R.str_size]; have := R.dec_len (n / 10) 5 (by omega); omega
      have z2 : ((⟨#[48, 49, 50, 51, 52, 53, 54, 55, 56, 57]⟩ : ByteArray).extract (n % 10) (n % 10 + 1)).size ≤ 1 := by rw [HD.out, R.str_size]; simp
      clear ih
      go_enter Tryz.func91, Tryz.ntmps91
      go_wp2_with (go_at_call 91; refine (HI.out _).mono ?_; rintro e w' ⟨rfl, rfl⟩)
      go_ret
      refine ⟨ret_str ?_, rfl⟩
      rw [HD.out]
      apply str_ext
      rw [app_data, R.str_toList, R.str_toList, R.str_toList]
      conv => rhs; unfold R.dec
      rw [if_neg h]

end Go.Proofs.YtfocdefchbnkpaaGreatDoor
