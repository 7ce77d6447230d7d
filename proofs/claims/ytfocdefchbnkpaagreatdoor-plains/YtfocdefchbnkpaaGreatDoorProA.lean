/- The bytes of which policies are made: what the small functions of the program answer, and how many bytes at the front of a string are such. -/
import Derived.Test.YtfocdefchbnkpaaGreatDoorRefC
namespace Go.Proofs.YtfocdefchbnkpaaGreatDoor
open Go.RowKit

set_option maxHeartbeats 400000 in
theorem pro_IsSmall (c : Int) (w : World) :
    Calls Tryz.prog 260 #[.int .u8 c] w fun e w' => e = .returned (.bool (R.smallI c)) ∧ w' = w := by
  by_cases h : 97 ≤ c
  all_goals
    go_enter Tryz.func260, Tryz.ntmps260
    go_wp2
    go_ret
    exact ⟨ret_bool (by unfold R.smallI; rw [Bool.eq_iff_iff]; simp; try omega), rfl⟩
set_option maxHeartbeats 400000 in
theorem pro_IsLarge (c : Int) (w : World) :
    Calls Tryz.prog 309 #[.int .u8 c] w fun e w' => e = .returned (.bool (R.largeI c)) ∧ w' = w := by
  by_cases h : 65 ≤ c
  all_goals
    go_enter Tryz.func309, Tryz.ntmps309
    go_wp2
    go_ret
    exact ⟨ret_bool (by unfold R.largeI; rw [Bool.eq_iff_iff]; simp; try omega), rfl⟩
set_option maxHeartbeats 400000 in
theorem pro_IsDigit (c : Int) (w : World) :
    Calls Tryz.prog 261 #[.int .u8 c] w fun e w' => e = .returned (.bool (R.digitI c)) ∧ w' = w := by
  by_cases h : 48 ≤ c
  all_goals
    go_enter Tryz.func261, Tryz.ntmps261
    go_wp2
    go_ret
    exact ⟨ret_bool (by unfold R.digitI; rw [Bool.eq_iff_iff]; simp; try omega), rfl⟩

def P.blankI (c : Int) : Bool := c == 32 || c == 10
set_option maxHeartbeats 400000 in
theorem pro_isBlank (c : Int) (w : World) :
    Calls Tryz.prog 203 #[.int .u8 c] w fun e w' => e = .returned (.bool (P.blankI c)) ∧ w' = w := by
  cases h : (c == 32)
  all_goals
    go_enter Tryz.func203, Tryz.ntmps203
    go_wp2
    go_ret
    exact ⟨ret_bool (by unfold P.blankI; rw [h]; try rfl), rfl⟩

set_option maxHeartbeats 400000 in
theorem pro_isPathByte (c : Int) (w : World) :
    Calls Tryz.prog 377 #[.int .u8 c] w fun e w' => e = .returned (.bool (R.pathI c)) ∧ w' = w := by
  go_enter Tryz.func377, Tryz.ntmps377
  go_wp2
  all_goals
    go_ret
    exact ⟨ret_bool (by unfold R.pathI; rw [Bool.eq_iff_iff]; simp; try omega), rfl⟩
set_option maxHeartbeats 400000 in
theorem pro_isValueByte (c : Int) (w : World) :
    Calls Tryz.prog 411 #[.int .u8 c] w fun e w' => e = .returned (.bool (R.valueI c)) ∧ w' = w := by
  go_enter Tryz.func411, Tryz.ntmps411
  go_wp2
  all_goals
    go_ret
    exact ⟨ret_bool (by unfold R.valueI; rw [Bool.eq_iff_iff]; simp; try omega), rfl⟩

theorem P.all_span (p : Int → Bool) (l : List UInt8) : R.allB p l = true ↔ R.span p l = l.length := by
  unfold R.allB
  induction l with
  | nil => simp [R.span]
  | cons a l ih =>
    have hl := R.span_le p l
    rw [List.all_cons, R.span, List.length_cons]
    cases hp : p a.toNat
    · simp
    · simp [ih]

set_option maxRecDepth 100000 in
set_option maxHeartbeats 1000000 in
theorem pro_Run_small (s : ByteArray) (w : World) (hs : s.size ≤ maxLen) :
    Calls Tryz.prog 202 #[.string s, .func (.func 260) #[] #[]] w fun e w' => e = .returned (.int .i64 (R.span R.smallI s.data.toList : Nat)) ∧ w' = w := by
  unfold maxLen at hs
  go_enter Tryz.func202, Tryz.ntmps202
  go_wp2_with fail
  go_loop [8] (fun v => ∃ k : Nat, k ≤ s.size ∧ v = .int .i64 k ∧ Hid (R.span R.smallI s.data.toList = k + R.span R.smallI (s.data.toList.drop k))) (fun v => s.size - (intOf v).toNat)
  case atStart => exact ⟨0, Nat.zero_le _, rfl, by show _ = _; simp⟩
  case round =>
    obtain ⟨k, hk, rfl, HL⟩ := hrel
    by_cases hlt : k < s.size
    · cases hp : R.smallI s[k].toNat
      · have H2 : Hid (R.span R.smallI s.data.toList = k) := by
          have := HL.out; rw [R.span_stop hlt hp] at this; exact this
        clear HL
        go_wp2_with fail
        refine (pro_IsSmall _ _).mono ?_
        rintro e wX ⟨rfl, hwX⟩
        rw [hwX, hp]
        clear hwX wX
        go_wp2
        go_ret
        exact ⟨by rw [H2.out]; rfl, rfl⟩
      · have H2 : Hid (R.span R.smallI s.data.toList = (k + 1) + R.span R.smallI (s.data.toList.drop (k + 1))) := by
          have := HL.out; rw [R.span_step hlt hp] at this; show _ = _; omega
        clear HL
        go_wp2_with fail
        refine (pro_IsSmall _ _).mono ?_
        rintro e wX ⟨rfl, hwX⟩
        rw [hwX, hp]
        clear hwX wX
        go_wp2
        exact ⟨⟨k + 1, by omega, by go_num, H2⟩, by simp [intOf]; omega⟩
    · have H2 : Hid (R.span R.smallI s.data.toList = s.size) := by
        have := HL.out; rw [R.span_end (k := k) (by omega)] at this; show _ = _; omega
      clear HL
      go_wp2
      go_ret
      exact ⟨by rw [H2.out]; rfl, rfl⟩

set_option maxHeartbeats 1000000 in
theorem pro_All_small (s : ByteArray) (w : World) (hs : s.size ≤ maxLen) :
    Calls Tryz.prog 352 #[.string s, .func (.func 260) #[] #[]] w fun e w' => e = .returned (.bool (R.allB R.smallI s.data.toList)) ∧ w' = w := by
  have HA : Hid (R.allB R.smallI s.data.toList = ((R.span R.smallI s.data.toList : Int) == s.size)) := by
    show R.allB R.smallI s.data.toList = _
    rw [← R.size_eq, Bool.eq_iff_iff]
    simp only [beq_iff_eq]
    rw [Int.ofNat_inj]
    exact P.all_span R.smallI s.data.toList
  go_enter Tryz.func352, Tryz.ntmps352
  go_wp2_with fail
  refine (pro_Run_small s _ hs).mono ?_
  rintro e wX ⟨rfl, hwX⟩
  rw [hwX]
  clear hwX wX
  go_wp2
  go_ret
  exact ⟨ret_bool (by rw [HA.out]), rfl⟩

set_option maxRecDepth 100000 in
set_option maxHeartbeats 1000000 in
theorem pro_Run_digit (s : ByteArray) (w : World) (hs : s.size ≤ maxLen) :
    Calls Tryz.prog 202 #[.string s, .func (.func 261) #[] #[]] w fun e w' => e = .returned (.int .i64 (R.span R.digitI s.data.toList : Nat)) ∧ w' = w := by
  unfold maxLen at hs
  go_enter Tryz.func202, Tryz.ntmps202
  go_wp2_with fail
  go_loop [8] (fun v => ∃ k : Nat, k ≤ s.size ∧ v = .int .i64 k ∧ Hid (R.span R.digitI s.data.toList = k + R.span R.digitI (s.data.toList.drop k))) (fun v => s.size - (intOf v).toNat)
  case atStart => exact ⟨0, Nat.zero_le _, rfl, by show _ = _; simp⟩
  case round =>
    obtain ⟨k, hk, rfl, HL⟩ := hrel
    by_cases hlt : k < s.size
    · cases hp : R.digitI s[k].toNat
      · have H2 : Hid (R.span R.digitI s.data.toList = k) := by
          have := HL.out; rw [R.span_stop hlt hp] at this; exact this
        clear HL
        go_wp2_with fail
        refine (pro_IsDigit _ _).mono ?_
        rintro e wX ⟨rfl, hwX⟩
        rw [hwX, hp]
        clear hwX wX
        go_wp2
        go_ret
        exact ⟨by rw [H2.out]; rfl, rfl⟩
      · have H2 : Hid (R.span R.digitI s.data.toList = (k + 1) + R.span R.digitI (s.data.toList.drop (k + 1))) := by
          have := HL.out; rw [R.span_step hlt hp] at this; show _ = _; omega
        clear HL
        go_wp2_with fail
        refine (pro_IsDigit _ _).mono ?_
        rintro e wX ⟨rfl, hwX⟩
        rw [hwX, hp]
        clear hwX wX
        go_wp2
        exact ⟨⟨k + 1, by omega, by go_num, H2⟩, by simp [intOf]; omega⟩
    · have H2 : Hid (R.span R.digitI s.data.toList = s.size) := by
        have := HL.out; rw [R.span_end (k := k) (by omega)] at this; show _ = _; omega
      clear HL
      go_wp2
      go_ret
      exact ⟨by rw [H2.out]; rfl, rfl⟩

set_option maxHeartbeats 1000000 in
theorem pro_All_digit (s : ByteArray) (w : World) (hs : s.size ≤ maxLen) :
    Calls Tryz.prog 352 #[.string s, .func (.func 261) #[] #[]] w fun e w' => e = .returned (.bool (R.allB R.digitI s.data.toList)) ∧ w' = w := by
  have HA : Hid (R.allB R.digitI s.data.toList = ((R.span R.digitI s.data.toList : Int) == s.size)) := by
    show R.allB R.digitI s.data.toList = _
    rw [← R.size_eq, Bool.eq_iff_iff]
    simp only [beq_iff_eq]
    rw [Int.ofNat_inj]
    exact P.all_span R.digitI s.data.toList
  go_enter Tryz.func352, Tryz.ntmps352
  go_wp2_with fail
  refine (pro_Run_digit s _ hs).mono ?_
  rintro e wX ⟨rfl, hwX⟩
  rw [hwX]
  clear hwX wX
  go_wp2
  go_ret
  exact ⟨ret_bool (by rw [HA.out]), rfl⟩

set_option maxRecDepth 100000 in
set_option maxHeartbeats 1000000 in
theorem pro_Run_blank (s : ByteArray) (w : World) (hs : s.size ≤ maxLen) :
    Calls Tryz.prog 202 #[.string s, .func (.func 203) #[] #[]] w fun e w' => e = .returned (.int .i64 (R.span P.blankI s.data.toList : Nat)) ∧ w' = w := by
  unfold maxLen at hs
  go_enter Tryz.func202, Tryz.ntmps202
  go_wp2_with fail
  go_loop [8] (fun v => ∃ k : Nat, k ≤ s.size ∧ v = .int .i64 k ∧ Hid (R.span P.blankI s.data.toList = k + R.span P.blankI (s.data.toList.drop k))) (fun v => s.size - (intOf v).toNat)
  case atStart => exact ⟨0, Nat.zero_le _, rfl, by show _ = _; simp⟩
  case round =>
    obtain ⟨k, hk, rfl, HL⟩ := hrel
    by_cases hlt : k < s.size
    · cases hp : P.blankI s[k].toNat
      · have H2 : Hid (R.span P.blankI s.data.toList = k) := by
          have := HL.out; rw [R.span_stop hlt hp] at this; exact this
        clear HL
        go_wp2_with fail
        refine (pro_isBlank _ _).mono ?_
        rintro e wX ⟨rfl, hwX⟩
        rw [hwX, hp]
        clear hwX wX
        go_wp2
        go_ret
        exact ⟨by rw [H2.out]; rfl, rfl⟩
      · have H2 : Hid (R.span P.blankI s.data.toList = (k + 1) + R.span P.blankI (s.data.toList.drop (k + 1))) := by
          have := HL.out; rw [R.span_step hlt hp] at this; show _ = _; omega
        clear HL
        go_wp2_with fail
        refine (pro_isBlank _ _).mono ?_
        rintro e wX ⟨rfl, hwX⟩
        rw [hwX, hp]
        clear hwX wX
        go_wp2
        exact ⟨⟨k + 1, by omega, by go_num, H2⟩, by simp [intOf]; omega⟩
    · have H2 : Hid (R.span P.blankI s.data.toList = s.size) := by
        have := HL.out; rw [R.span_end (k := k) (by omega)] at this; show _ = _; omega
      clear HL
      go_wp2
      go_ret
      exact ⟨by rw [H2.out]; rfl, rfl⟩

set_option maxHeartbeats 1000000 in
theorem pro_All_blank (s : ByteArray) (w : World) (hs : s.size ≤ maxLen) :
    Calls Tryz.prog 352 #[.string s, .func (.func 203) #[] #[]] w fun e w' => e = .returned (.bool (R.allB P.blankI s.data.toList)) ∧ w' = w := by
  have HA : Hid (R.allB P.blankI s.data.toList = ((R.span P.blankI s.data.toList : Int) == s.size)) := by
    show R.allB P.blankI s.data.toList = _
    rw [← R.size_eq, Bool.eq_iff_iff]
    simp only [beq_iff_eq]
    rw [Int.ofNat_inj]
    exact P.all_span P.blankI s.data.toList
  go_enter Tryz.func352, Tryz.ntmps352
  go_wp2_with fail
  refine (pro_Run_blank s _ hs).mono ?_
  rintro e wX ⟨rfl, hwX⟩
  rw [hwX]
  clear hwX wX
  go_wp2
  go_ret
  exact ⟨ret_bool (by rw [HA.out]), rfl⟩

set_option maxRecDepth 100000 in
set_option maxHeartbeats 1000000 in
theorem pro_Run_path (s : ByteArray) (w : World) (hs : s.size ≤ maxLen) :
    Calls Tryz.prog 202 #[.string s, .func (.func 377) #[] #[]] w fun e w' => e = .returned (.int .i64 (R.span R.pathI s.data.toList : Nat)) ∧ w' = w := by
  unfold maxLen at hs
  go_enter Tryz.func202, Tryz.ntmps202
  go_wp2_with fail
  go_loop [8] (fun v => ∃ k : Nat, k ≤ s.size ∧ v = .int .i64 k ∧ Hid (R.span R.pathI s.data.toList = k + R.span R.pathI (s.data.toList.drop k))) (fun v => s.size - (intOf v).toNat)
  case atStart => exact ⟨0, Nat.zero_le _, rfl, by show _ = _; simp⟩
  case round =>
    obtain ⟨k, hk, rfl, HL⟩ := hrel
    by_cases hlt : k < s.size
    · cases hp : R.pathI s[k].toNat
      · have H2 : Hid (R.span R.pathI s.data.toList = k) := by
          have := HL.out; rw [R.span_stop hlt hp] at this; exact this
        clear HL
        go_wp2_with fail
        refine (pro_isPathByte _ _).mono ?_
        rintro e wX ⟨rfl, hwX⟩
        rw [hwX, hp]
        clear hwX wX
        go_wp2
        go_ret
        exact ⟨by rw [H2.out]; rfl, rfl⟩
      · have H2 : Hid (R.span R.pathI s.data.toList = (k + 1) + R.span R.pathI (s.data.toList.drop (k + 1))) := by
          have := HL.out; rw [R.span_step hlt hp] at this; show _ = _; omega
        clear HL
        go_wp2_with fail
        refine (pro_isPathByte _ _).mono ?_
        rintro e wX ⟨rfl, hwX⟩
        rw [hwX, hp]
        clear hwX wX
        go_wp2
        exact ⟨⟨k + 1, by omega, by go_num, H2⟩, by simp [intOf]; omega⟩
    · have H2 : Hid (R.span R.pathI s.data.toList = s.size) := by
        have := HL.out; rw [R.span_end (k := k) (by omega)] at this; show _ = _; omega
      clear HL
      go_wp2
      go_ret
      exact ⟨by rw [H2.out]; rfl, rfl⟩

set_option maxHeartbeats 1000000 in
theorem pro_All_path (s : ByteArray) (w : World) (hs : s.size ≤ maxLen) :
    Calls Tryz.prog 352 #[.string s, .func (.func 377) #[] #[]] w fun e w' => e = .returned (.bool (R.allB R.pathI s.data.toList)) ∧ w' = w := by
  have HA : Hid (R.allB R.pathI s.data.toList = ((R.span R.pathI s.data.toList : Int) == s.size)) := by
    show R.allB R.pathI s.data.toList = _
    rw [← R.size_eq, Bool.eq_iff_iff]
    simp only [beq_iff_eq]
    rw [Int.ofNat_inj]
    exact P.all_span R.pathI s.data.toList
  go_enter Tryz.func352, Tryz.ntmps352
  go_wp2_with fail
  refine (pro_Run_path s _ hs).mono ?_
  rintro e wX ⟨rfl, hwX⟩
  rw [hwX]
  clear hwX wX
  go_wp2
  go_ret
  exact ⟨ret_bool (by rw [HA.out]), rfl⟩

set_option maxRecDepth 100000 in
set_option maxHeartbeats 1000000 in
theorem pro_Run_value (s : ByteArray) (w : World) (hs : s.size ≤ maxLen) :
    Calls Tryz.prog 202 #[.string s, .func (.func 411) #[] #[]] w fun e w' => e = .returned (.int .i64 (R.span R.valueI s.data.toList : Nat)) ∧ w' = w := by
  unfold maxLen at hs
  go_enter Tryz.func202, Tryz.ntmps202
  go_wp2_with fail
  go_loop [8] (fun v => ∃ k : Nat, k ≤ s.size ∧ v = .int .i64 k ∧ Hid (R.span R.valueI s.data.toList = k + R.span R.valueI (s.data.toList.drop k))) (fun v => s.size - (intOf v).toNat)
  case atStart => exact ⟨0, Nat.zero_le _, rfl, by show _ = _; simp⟩
  case round =>
    obtain ⟨k, hk, rfl, HL⟩ := hrel
    by_cases hlt : k < s.size
    · cases hp : R.valueI s[k].toNat
      · have H2 : Hid (R.span R.valueI s.data.toList = k) := by
          have := HL.out; rw [R.span_stop hlt hp] at this; exact this
        clear HL
        go_wp2_with fail
        refine (pro_isValueByte _ _).mono ?_
        rintro e wX ⟨rfl, hwX⟩
        rw [hwX, hp]
        clear hwX wX
        go_wp2
        go_ret
        exact ⟨by rw [H2.out]; rfl, rfl⟩
      · have H2 : Hid (R.span R.valueI s.data.toList = (k + 1) + R.span R.valueI (s.data.toList.drop (k + 1))) := by
          have := HL.out; rw [R.span_step hlt hp] at this; show _ = _; omega
        clear HL
        go_wp2_with fail
        refine (pro_isValueByte _ _).mono ?_
        rintro e wX ⟨rfl, hwX⟩
        rw [hwX, hp]
        clear hwX wX
        go_wp2
        exact ⟨⟨k + 1, by omega, by go_num, H2⟩, by simp [intOf]; omega⟩
    · have H2 : Hid (R.span R.valueI s.data.toList = s.size) := by
        have := HL.out; rw [R.span_end (k := k) (by omega)] at this; show _ = _; omega
      clear HL
      go_wp2
      go_ret
      exact ⟨by rw [H2.out]; rfl, rfl⟩

set_option maxHeartbeats 1000000 in
theorem pro_All_value (s : ByteArray) (w : World) (hs : s.size ≤ maxLen) :
    Calls Tryz.prog 352 #[.string s, .func (.func 411) #[] #[]] w fun e w' => e = .returned (.bool (R.allB R.valueI s.data.toList)) ∧ w' = w := by
  have HA : Hid (R.allB R.valueI s.data.toList = ((R.span R.valueI s.data.toList : Int) == s.size)) := by
    show R.allB R.valueI s.data.toList = _
    rw [← R.size_eq, Bool.eq_iff_iff]
    simp only [beq_iff_eq]
    rw [Int.ofNat_inj]
    exact P.all_span R.valueI s.data.toList
  go_enter Tryz.func352, Tryz.ntmps352
  go_wp2_with fail
  refine (pro_Run_value s _ hs).mono ?_
  rintro e wX ⟨rfl, hwX⟩
  rw [hwX]
  clear hwX wX
  go_wp2
  go_ret
  exact ⟨ret_bool (by rw [HA.out]), rfl⟩

end Go.Proofs.YtfocdefchbnkpaaGreatDoor

/- The bytes of labels and upstreams; labels, upstreams and paths as the program tells them. -/
namespace Go.Proofs.YtfocdefchbnkpaaGreatDoor
open Go.RowKit

set_option maxRecDepth 100000 in
set_option maxHeartbeats 1000000 in
theorem pro_isLabelByte (c : Int) (w : World) :
    Calls Tryz.prog 393 #[.int .u8 c] w fun e w' => e = .returned (.bool (R.partI c true)) ∧ w' = w := by
  have HP : Hid (R.partI c true = (R.smallI c || R.digitI c || c == 45 || (true && R.largeI c))) := rfl
  cases h1 : R.smallI c <;> cases h2 : R.largeI c <;> cases h3 : R.digitI c
  all_goals
    rw [h1, h2, h3] at HP
    go_enter Tryz.func393, Tryz.ntmps393
    go_wp2_with (first
      | (go_at_call 260; refine (pro_IsSmall _ _).mono ?_; rintro e w' ⟨rfl, rfl⟩)
      | (go_at_call 309; refine (pro_IsLarge _ _).mono ?_; rintro e w' ⟨rfl, rfl⟩)
      | (go_at_call 261; refine (pro_IsDigit _ _).mono ?_; rintro e w' ⟨rfl, rfl⟩))
    go_ret
    exact ⟨ret_bool (by rw [HP.out]; simp), rfl⟩

set_option maxRecDepth 100000 in
set_option maxHeartbeats 1000000 in
theorem pro_isUpstreamByte (c : Int) (w : World) :
    Calls Tryz.prog 412 #[.int .u8 c] w fun e w' => e = .returned (.bool (R.upI c)) ∧ w' = w := by
  have HP : Hid (R.upI c = (R.smallI c || R.digitI c || c == 45 || (false && R.largeI c) || decide (c = 46 ∨ c = 58))) := rfl
  cases h1 : R.smallI c <;> cases h3 : R.digitI c
  all_goals
    rw [h1, h3] at HP
    go_enter Tryz.func412, Tryz.ntmps412
    go_wp2_with (first
      | (go_at_call 260; refine (pro_IsSmall _ _).mono ?_; rintro e w' ⟨rfl, rfl⟩)
      | (go_at_call 261; refine (pro_IsDigit _ _).mono ?_; rintro e w' ⟨rfl, rfl⟩))
    all_goals
      go_ret
      exact ⟨ret_bool (by rw [HP.out, Bool.eq_iff_iff]; simp; try omega), rfl⟩

end Go.Proofs.YtfocdefchbnkpaaGreatDoor
