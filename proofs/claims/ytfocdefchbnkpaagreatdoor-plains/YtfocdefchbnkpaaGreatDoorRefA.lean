/- What the small functions of the document's own reading of a policy answer: each returns what its plain twin computes, and leaves memory as it was. -/
import Derived.Test.YtfocdefchbnkpaaGreatDoorProg
import Derived.Test.YtfocdefchbnkpaaGreatDoorPure1
import Derived.WalkKit
import Derived.WalkSpells
namespace Go.Proofs.YtfocdefchbnkpaaGreatDoor
open Go.RowKit

theorem ret_bool {a b : Bool} (h : a = b) : Ending.returned (.bool a) = .returned (.bool b) := by rw [h]

set_option maxHeartbeats 400000 in
theorem ref_small (c : Int) (w : World) :
    Calls Tryz.prog 128 #[.int .u8 c] w fun e w' => e = .returned (.bool (R.smallI c)) ∧ w' = w := by
  by_cases h : 97 ≤ c
  all_goals
    go_enter Tryz.func128, Tryz.ntmps128
    go_wp2
    go_ret
    exact ⟨ret_bool (by unfold R.smallI; rw [Bool.eq_iff_iff]; simp; try omega), rfl⟩

set_option maxHeartbeats 400000 in
theorem ref_digit (c : Int) (w : World) :
    Calls Tryz.prog 129 #[.int .u8 c] w fun e w' => e = .returned (.bool (R.digitI c)) ∧ w' = w := by
  by_cases h : 48 ≤ c
  all_goals
    go_enter Tryz.func129, Tryz.ntmps129
    go_wp2
    go_ret
    exact ⟨ret_bool (by unfold R.digitI; rw [Bool.eq_iff_iff]; simp; try omega), rfl⟩

set_option maxHeartbeats 1000000 in
theorem ref_part (c : Int) (lg : Bool) (w : World) :
    Calls Tryz.prog 188 #[.int .u8 c, .bool lg] w fun e w' => e = .returned (.bool (R.partI c lg)) ∧ w' = w := by
  cases lg
  all_goals
    go_enter Tryz.func188, Tryz.ntmps188
    go_wp2
    all_goals
      go_ret
      refine ⟨ret_bool ?_, rfl⟩
      unfold R.partI R.smallI R.digitI R.largeI
      rw [Bool.eq_iff_iff]
      simp
      try omega

set_option maxHeartbeats 400000 in
theorem ref_Labels (s : ByteArray) (lg : Bool) (w : World) (hs : s.size ≤ maxLen) :
    Calls Tryz.prog 131 #[.string s, .bool lg] w fun e w' => e = .returned (.bool (R.labels s.data.toList lg)) ∧ w' = w := by
  unfold maxLen at hs
  go_enter Tryz.func131, Tryz.ntmps131
  go_wp2
  go_loop [5, 6] (fun n i => ∃ k m : Nat, k ≤ s.size ∧ m ≤ k ∧ i = .int .i64 k ∧ n = .int .i64 m ∧ Hid (R.labelsGo lg (s.data.toList.drop k) m = R.labels s.data.toList lg)) (fun _ i => s.size - (intOf i).toNat)
  case atStart => exact ⟨0, 0, Nat.zero_le _, Nat.zero_le _, rfl, rfl, rfl⟩
  case round =>
    obtain ⟨k, m, hk, hm, rfl, rfl, HL⟩ := hrel
    by_cases hlt : k < s.size
    · have HL2 : Hid ((if (s[k].toNat : Int) = 46 ∧ 0 < m then R.labelsGo lg (s.data.toList.drop (k + 1)) 0 else if R.partI s[k].toNat lg then R.labelsGo lg (s.data.toList.drop (k + 1)) (m + 1) else false) = R.labels s.data.toList lg) := by
        have := HL.out; rw [R.drop_cons s k hlt, R.labelsGo] at this; exact this
      clear HL
      generalize hb : s[k] = b at *
      by_cases h46 : (b.toNat : Int) = 46 ∧ 0 < m
      · obtain ⟨h1, h2⟩ := h46
        have H3 : Hid (R.labelsGo lg (s.data.toList.drop (k + 1)) 0 = R.labels s.data.toList lg) := by have := HL2.out; rwa [if_pos ⟨h1, h2⟩] at this
        have h1' : ((b.toNat : Int) == 46) = true := by simp [h1]
        clear h1 HL2
        go_wp2_with (go_at_call 188; refine (ref_part _ _ _).mono ?_; rintro e w' ⟨rfl, rfl⟩)
        exact ⟨⟨k + 1, 0, by omega, by omega, by go_num, by go_num, H3⟩, by simp [intOf]; omega⟩
      · cases hp : R.partI b.toNat lg
        · have H3 : Hid (false = R.labels s.data.toList lg) := by have := HL2.out; rwa [if_neg h46, hp, if_neg (by simp)] at this
          clear HL2
          go_wp2_with (go_at_call 188; refine (ref_part _ _ _).mono ?_; rintro e w' ⟨rfl, rfl⟩)
          all_goals
            go_ret
            exact ⟨ret_bool H3, rfl⟩
        · have H3 : Hid (R.labelsGo lg (s.data.toList.drop (k + 1)) (m + 1) = R.labels s.data.toList lg) := by have := HL2.out; rwa [if_neg h46, hp, if_pos rfl] at this
          clear HL2
          go_wp2_with (go_at_call 188; refine (ref_part _ _ _).mono ?_; rintro e w' ⟨rfl, rfl⟩)
          all_goals exact ⟨⟨k + 1, m + 1, by omega, by omega, by go_num, by go_num, H3⟩, by simp [intOf]; omega⟩
    · go_wp2
      go_ret
      exact ⟨ret_bool (by rw [← HL.out, List.drop_of_length_le (by rw [R.size_eq]; omega)]; rfl), rfl⟩

set_option maxHeartbeats 400000 in
theorem ref_Word (s : ByteArray) (lg : Bool) (w : World) (hs : s.size ≤ maxLen) :
    Calls Tryz.prog 313 #[.string s, .bool lg] w fun e w' => e = .returned (.bool (R.word s.data.toList lg)) ∧ w' = w := by
  unfold maxLen at hs
  go_enter Tryz.func313, Tryz.ntmps313
  go_wp2
  go_loop [5] (fun i => ∃ k : Nat, k ≤ s.size ∧ i = .int .i64 k ∧ Hid (R.allB (fun c => R.partI c lg) (s.data.toList.take k) = true)) (fun i => s.size - (intOf i).toNat)
  case atStart => exact ⟨0, Nat.zero_le _, rfl, rfl⟩
  case round =>
    obtain ⟨k, hk, rfl, HL⟩ := hrel
    by_cases hlt : k < s.size
    · cases hp : R.partI s[k].toNat lg
      · have H3 : Hid (R.word s.data.toList lg = false) := by
          show R.word s.data.toList lg = false
          unfold R.word; rw [R.all_false (p := fun c => R.partI c lg) hlt hp]; rfl
        go_wp2_with (go_at_call 188; refine (ref_part _ _ _).mono ?_; rintro e w' ⟨rfl, rfl⟩)
        go_ret
        exact ⟨ret_bool H3.out.symm, rfl⟩
      · have H3 := R.all_succ (p := fun c => R.partI c lg) hlt HL.out hp
        have H4 : Hid (R.allB (fun c => R.partI c lg) (s.data.toList.take (k + 1)) = true) := H3
        clear H3
        go_wp2_with (go_at_call 188; refine (ref_part _ _ _).mono ?_; rintro e w' ⟨rfl, rfl⟩)
        exact ⟨⟨k + 1, by omega, by go_num, H4⟩, by simp [intOf]; omega⟩
    · have H3 : Hid (R.word s.data.toList lg = decide (0 < s.size)) := by
        show R.word s.data.toList lg = _
        unfold R.word; rw [R.all_done (by omega) HL.out, R.size_eq]; rfl
      go_wp2
      go_ret
      exact ⟨ret_bool (by rw [H3.out]), rfl⟩

set_option maxHeartbeats 400000 in
theorem ref_Upstream (s : ByteArray) (w : World) (hs : s.size ≤ maxLen) :
    Calls Tryz.prog 193 #[.string s] w fun e w' => e = .returned (.bool (R.upstream s.data.toList)) ∧ w' = w := by
  unfold maxLen at hs
  go_enter Tryz.func193, Tryz.ntmps193
  go_wp2
  go_loop [3] (fun i => ∃ k : Nat, k ≤ s.size ∧ i = .int .i64 k ∧ Hid (R.allB R.upI (s.data.toList.take k) = true)) (fun i => s.size - (intOf i).toNat)
  case atStart => exact ⟨0, Nat.zero_le _, rfl, rfl⟩
  case round =>
    obtain ⟨k, hk, rfl, HL⟩ := hrel
    by_cases hlt : k < s.size
    · have HN : Hid (R.upI s[k].toNat = false → R.upstream s.data.toList = false) := by
        intro h; unfold R.upstream; rw [R.all_false hlt h]; rfl
      have HY : Hid (R.upI s[k].toNat = true → R.allB R.upI (s.data.toList.take (k + 1)) = true) := fun h => R.all_succ hlt HL.out h
      clear HL
      generalize hb : s[k] = b at *
      cases hp : R.partI b.toNat false
      · by_cases h1 : (b.toNat : Int) = 46 ∨ (b.toNat : Int) = 58
        · have H4 : Hid (R.allB R.upI (s.data.toList.take (k + 1)) = true) := HY.out (by unfold R.upI; rw [hp]; simp; omega)
          go_wp2_with (go_at_call 188; refine (ref_part _ _ _).mono ?_; rintro e w' ⟨rfl, rfl⟩)
          all_goals first | exact ⟨⟨k + 1, by omega, by go_num, H4⟩, by simp [intOf]; omega⟩ | (exfalso; simp_all; done) | (exfalso; omega)
        · have H3 : Hid (R.upstream s.data.toList = false) := HN.out (by unfold R.upI; rw [hp]; simp; omega)
          have g1 : ((b.toNat : Int) != 46) = true := by rw [bne_iff_ne]; exact fun h => h1 (Or.inl h)
          have g2 : ((b.toNat : Int) != 58) = true := by rw [bne_iff_ne]; exact fun h => h1 (Or.inr h)
          clear h1
          go_wp2_with (go_at_call 188; refine (ref_part _ _ _).mono ?_; rintro e w' ⟨rfl, rfl⟩)
          go_ret
          exact ⟨ret_bool H3.out.symm, rfl⟩
      · have H4 : Hid (R.allB R.upI (s.data.toList.take (k + 1)) = true) := HY.out (by unfold R.upI; rw [hp]; rfl)
        go_wp2_with (go_at_call 188; refine (ref_part _ _ _).mono ?_; rintro e w' ⟨rfl, rfl⟩)
        exact ⟨⟨k + 1, by omega, by go_num, H4⟩, by simp [intOf]; omega⟩
    · have H3 : Hid (R.upstream s.data.toList = decide (0 < s.size)) := by
        show R.upstream s.data.toList = _
        unfold R.upstream; rw [R.all_done (by omega) HL.out, R.size_eq]; rfl
      go_wp2
      go_ret
      exact ⟨ret_bool (by rw [H3.out]), rfl⟩

end Go.Proofs.YtfocdefchbnkpaaGreatDoor
