/- Where a token ends, and of which kind it is: what the document's own function answers at any place of a text of at most 3000 bytes. -/
import Derived.Test.YtfocdefchbnkpaaGreatDoorRefB
namespace Go.Proofs.YtfocdefchbnkpaaGreatDoor
open Go.RowKit
namespace R

/-- How many bytes at the front are such. -/
def span (p : Int → Bool) : List UInt8 → Nat
  | [] => 0
  | c :: cs => if p c.toNat then span p cs + 1 else 0

theorem span_step {p : Int → Bool} {s : ByteArray} {k : Nat} (h : k < s.size) (hp : p s[k].toNat = true) : span p (s.data.toList.drop k) = span p (s.data.toList.drop (k + 1)) + 1 := by
  rw [drop_cons s k h, span, if_pos hp]
theorem span_stop {p : Int → Bool} {s : ByteArray} {k : Nat} (h : k < s.size) (hp : p s[k].toNat = false) : span p (s.data.toList.drop k) = 0 := by
  rw [drop_cons s k h, span, if_neg (by rw [hp]; simp)]
theorem span_end {p : Int → Bool} {s : ByteArray} {k : Nat} (h : s.size ≤ k) : span p (s.data.toList.drop k) = 0 := by
  rw [List.drop_of_length_le (by rw [size_eq]; exact h)]; rfl
theorem span_le (p : Int → Bool) (l : List UInt8) : span p l ≤ l.length := by
  induction l with
  | nil => exact Nat.le_refl _
  | cons c cs ih => unfold span; split <;> simp <;> omega

def insideI (c : Int) : Bool := decide (c ≠ 34 ∧ c ≠ 10)
def signI (c : Int) : Bool := c == 123 || c == 125 || c == 59 || c == 61 || c == 44

/-- The byte at a place, 0 behind the end. -/
def at0 (l : List UInt8) (n : Nat) : Int := (l.getD n 0).toNat

theorem at0_eq (s : ByteArray) (n : Nat) (h : n < s.size) : at0 s.data.toList n = s[n].toNat := by
  unfold at0
  rw [List.getD_eq_getElem?_getD, List.getElem?_eq_getElem (by rw [size_eq]; exact h)]; rfl

/-- Where the token that begins at i ends, and its kind. -/
def tend (l : List UInt8) (i : Nat) : Nat × Int :=
  if smallI (at0 l i) then (i + 1 + span smallI (l.drop (i + 1)), 119)
  else if digitI (at0 l i) then
    (if 5 < i + 1 + span digitI (l.drop (i + 1)) - i then (i + 1 + span digitI (l.drop (i + 1)), 120) else (i + 1 + span digitI (l.drop (i + 1)), 49))
  else if at0 l i = 34 then
    (if i + 1 + span insideI (l.drop (i + 1)) = l.length ∨ at0 l (i + 1 + span insideI (l.drop (i + 1))) = 10 ∨ 24 < i + 1 + span insideI (l.drop (i + 1)) - i - 1
      then (i + 1 + span insideI (l.drop (i + 1)), 120) else (i + 1 + span insideI (l.drop (i + 1)) + 1, 34))
  else if signI (at0 l i) then (i + 1, 115)
  else (i + 1, 120)

def dkind (n i : Nat) : Int := if 5 < n - i then 120 else 49
def sbad (l : List UInt8) (n i : Nat) : Prop := n = l.length ∨ at0 l n = 10 ∨ 24 < n - i - 1
instance (l : List UInt8) (n i : Nat) : Decidable (sbad l n i) := by unfold sbad; infer_instance
def sEnd (l : List UInt8) (n i : Nat) : Nat := if sbad l n i then n else n + 1
def sKind (l : List UInt8) (n i : Nat) : Int := if sbad l n i then 120 else 34
def gKind (c : Int) : Int := if signI c then 115 else 120

end R

theorem ret_nk {a b : Int} {c d : Int} (h : a = b) (h2 : c = d) : Ending.returned (.tuple #[.int .i64 a, .int .u8 c]) = .returned (.tuple #[.int .i64 b, .int .u8 d]) := by rw [h, h2]

set_option maxRecDepth 100000 in
set_option maxHeartbeats 2000000 in
theorem ref_end_word (s : ByteArray) (i : Nat) (w : World) (hs : s.size ≤ 3000) (hi : i < s.size) (hc : R.smallI s[i].toNat = true) :
    Calls Tryz.prog 83 #[.string s, .int .i64 i] w fun e w' => e = .returned (.tuple #[.int .i64 ((i + 1 + R.span R.smallI (s.data.toList.drop (i + 1)) : Nat) : Int), .int .u8 119]) ∧ w' = w := by
  cases hd : R.digitI s[i].toNat
  all_goals
    go_enter Tryz.func83, Tryz.ntmps83
    go_wp2_with (first | (go_at_call 128; refine (ref_small _ _).mono ?_; rintro e w' ⟨rfl, rfl⟩) | (go_at_call 129; refine (ref_digit _ _).mono ?_; rintro e w' ⟨rfl, rfl⟩))
    go_loop [7] (fun v => ∃ n : Nat, i + 1 ≤ n ∧ n ≤ s.size ∧ v = .int .i64 n ∧ Hid (i + 1 + R.span R.smallI (s.data.toList.drop (i + 1)) = n + R.span R.smallI (s.data.toList.drop n))) (fun v => s.size - (intOf v).toNat)
    case atStart => exact ⟨i + 1, Nat.le_refl _, hi, by go_num, rfl⟩
    case round =>
      obtain ⟨n, h1, h2, rfl, HL⟩ := hrel
      by_cases hlt : n < s.size
      · by_cases hp : 97 ≤ (s[n].toNat : Int) ∧ (s[n].toNat : Int) ≤ 122
        · have H2 : Hid (i + 1 + R.span R.smallI (s.data.toList.drop (i + 1)) = (n + 1) + R.span R.smallI (s.data.toList.drop (n + 1))) := by
            have := HL.out; rw [R.span_step hlt (by unfold R.smallI; simp [hp])] at this; show _ = _; omega
          obtain ⟨p1, p2⟩ := hp
          clear HL
          go_wp2
          exact ⟨⟨n + 1, by omega, by omega, by go_num, H2⟩, by simp [intOf]; omega⟩
        · have H2 : Hid (i + 1 + R.span R.smallI (s.data.toList.drop (i + 1)) = n) := by
            have := HL.out; rw [R.span_stop hlt (by unfold R.smallI; rw [← Bool.decide_and]; exact decide_eq_false hp)] at this; exact this
          clear HL
          by_cases p1 : 97 ≤ (s[n].toNat : Int)
          · have p2 : ¬ (s[n].toNat : Int) ≤ 122 := fun h => hp ⟨p1, h⟩
            go_wp2
            go_ret2
            exact ⟨ret_nk (by have := H2.out; omega) rfl, rfl⟩
          · go_wp2
            go_ret2
            exact ⟨ret_nk (by have := H2.out; omega) rfl, rfl⟩
      · have H2 : Hid (i + 1 + R.span R.smallI (s.data.toList.drop (i + 1)) = n) := by
          have := HL.out; rw [R.span_end (k := n) (by omega)] at this; exact this
        clear HL
        go_wp2
        go_ret2
        exact ⟨ret_nk (by have := H2.out; omega) rfl, rfl⟩

set_option maxRecDepth 100000 in
set_option maxHeartbeats 2000000 in
theorem ref_end_digit (s : ByteArray) (i : Nat) (w : World) (hs : s.size ≤ 3000) (hi : i < s.size) (ha : R.smallI s[i].toNat = false) (hd : R.digitI s[i].toNat = true) :
    Calls Tryz.prog 83 #[.string s, .int .i64 i] w fun e w' => e = .returned (.tuple #[.int .i64 ((i + 1 + R.span R.digitI (s.data.toList.drop (i + 1)) : Nat) : Int), .int .u8 (R.dkind (i + 1 + R.span R.digitI (s.data.toList.drop (i + 1))) i)]) ∧ w' = w := by
  go_enter Tryz.func83, Tryz.ntmps83
  go_wp2_with (first | (go_at_call 128; refine (ref_small _ _).mono ?_; rintro e w' ⟨rfl, rfl⟩) | (go_at_call 129; refine (ref_digit _ _).mono ?_; rintro e w' ⟨rfl, rfl⟩))
  go_loop [7] (fun v => ∃ n : Nat, i + 1 ≤ n ∧ n ≤ s.size ∧ v = .int .i64 n ∧ Hid (i + 1 + R.span R.digitI (s.data.toList.drop (i + 1)) = n + R.span R.digitI (s.data.toList.drop n))) (fun v => s.size - (intOf v).toNat)
  case atStart => exact ⟨i + 1, Nat.le_refl _, hi, by go_num, rfl⟩
  case round =>
    obtain ⟨n, h1, h2, rfl, HL⟩ := hrel
    by_cases hgo : n < s.size ∧ R.digitI (R.at0 s.data.toList n) = true
    · obtain ⟨hlt, hp⟩ := hgo
      rw [R.at0_eq s n hlt] at hp
      have H2 : Hid (i + 1 + R.span R.digitI (s.data.toList.drop (i + 1)) = (n + 1) + R.span R.digitI (s.data.toList.drop (n + 1))) := by
        have := HL.out; rw [R.span_step hlt hp] at this; show _ = _; omega
      unfold R.digitI at hp
      simp only [Bool.and_eq_true, decide_eq_true_eq] at hp
      obtain ⟨p1, p2⟩ := hp
      clear HL
      go_wp2
      exact ⟨⟨n + 1, by omega, by omega, by go_num, H2⟩, by simp [intOf]; omega⟩
    · have H2 : Hid (i + 1 + R.span R.digitI (s.data.toList.drop (i + 1)) = n) := by
        have := HL.out
        by_cases hlt : n < s.size
        · rw [R.span_stop hlt (by rw [← R.at0_eq s n hlt, Bool.eq_false_iff]; exact fun h => hgo ⟨hlt, h⟩)] at this; exact this
        · rw [R.span_end (k := n) (by omega)] at this; exact this
      clear HL
      by_cases hlt : n < s.size
      · by_cases p1 : 48 ≤ (s[n].toNat : Int)
        · have p2 : ¬ (s[n].toNat : Int) ≤ 57 := fun h => hgo ⟨hlt, by rw [R.at0_eq s n hlt]; unfold R.digitI; simp; omega⟩
          clear hgo
          by_cases h5 : 5 < (n : Int) - i
          all_goals
            go_wp2
            go_ret2
            exact ⟨ret_nk (by have := H2.out; omega) (by have := H2.out; unfold R.dkind; first | rw [if_pos (by omega)] | rw [if_neg (by omega)]), rfl⟩
        · clear hgo
          by_cases h5 : 5 < (n : Int) - i
          all_goals
            go_wp2
            go_ret2
            exact ⟨ret_nk (by have := H2.out; omega) (by have := H2.out; unfold R.dkind; first | rw [if_pos (by omega)] | rw [if_neg (by omega)]), rfl⟩
      · clear hgo
        by_cases h5 : 5 < (n : Int) - i
        all_goals
          go_wp2
          go_ret2
          exact ⟨ret_nk (by have := H2.out; omega) (by have := H2.out; unfold R.dkind; first | rw [if_pos (by omega)] | rw [if_neg (by omega)]), rfl⟩

set_option maxRecDepth 100000 in
set_option maxHeartbeats 2000000 in
theorem ref_end_string (s : ByteArray) (i : Nat) (w : World) (hs : s.size ≤ 3000) (hi : i < s.size) (hc : s[i].toNat = 34) (n0 : Nat) (hn0 : i + 1 + R.span R.insideI (s.data.toList.drop (i + 1)) = n0) :
    Calls Tryz.prog 83 #[.string s, .int .i64 i] w fun e w' => e = .returned (.tuple #[.int .i64 (R.sEnd s.data.toList n0 i : Int), .int .u8 (R.sKind s.data.toList n0 i)]) ∧ w' = w := by
  have ha : R.smallI s[i].toNat = false := by rw [hc]; rfl
  have hd : R.digitI s[i].toNat = false := by rw [hc]; rfl
  have hc2 : ((s[i].toNat : Int) == 34) = true := by rw [hc]; rfl
  have HN : Hid (i + 1 + R.span R.insideI (s.data.toList.drop (i + 1)) = n0) := hn0
  clear hc hn0
  go_enter Tryz.func83, Tryz.ntmps83
  go_wp2_with (first | (go_at_call 128; refine (ref_small _ _).mono ?_; rintro e w' ⟨rfl, rfl⟩) | (go_at_call 129; refine (ref_digit _ _).mono ?_; rintro e w' ⟨rfl, rfl⟩))
  go_loop [7] (fun v => ∃ n : Nat, i + 1 ≤ n ∧ n ≤ s.size ∧ v = .int .i64 n ∧ Hid (n0 = n + R.span R.insideI (s.data.toList.drop n))) (fun v => s.size - (intOf v).toNat)
  case atStart => exact ⟨i + 1, Nat.le_refl _, hi, by go_num, HN.out.symm⟩
  case round =>
    obtain ⟨n, h1, h2, rfl, HL⟩ := hrel
    by_cases hgo : n < s.size ∧ R.insideI (R.at0 s.data.toList n) = true
    · obtain ⟨hlt, hp⟩ := hgo
      rw [R.at0_eq s n hlt] at hp
      have H2 : Hid (n0 = (n + 1) + R.span R.insideI (s.data.toList.drop (n + 1))) := by
        have := HL.out; rw [R.span_step hlt hp] at this; show _ = _; omega
      unfold R.insideI at hp
      simp only [decide_eq_true_eq] at hp
      have p1 : ((s[n].toNat : Int) != 34) = true := by rw [bne_iff_ne]; exact hp.1
      have p2 : ((s[n].toNat : Int) != 10) = true := by rw [bne_iff_ne]; exact hp.2
      clear HL hp
      go_wp2
      exact ⟨⟨n + 1, by omega, by omega, by go_num, H2⟩, by simp [intOf]; omega⟩
    · have H2 : Hid (n0 = n) := by
        have := HL.out
        by_cases hlt : n < s.size
        · rw [R.span_stop hlt (by rw [← R.at0_eq s n hlt, Bool.eq_false_iff]; exact fun h => hgo ⟨hlt, h⟩)] at this; exact this
        · rw [R.span_end (k := n) (by omega)] at this; exact this
      clear HL
      by_cases hlt : n < s.size
      · have hE : ((n : Int) == s.size) = false := by rw [beq_eq_false_iff_ne]; omega
        have H10 : Hid (R.at0 s.data.toList n = s[n].toNat) := R.at0_eq s n hlt
        by_cases p1 : (s[n].toNat : Int) = 34
        · have q1 : ((s[n].toNat : Int) != 34) = false := by rw [p1]; rfl
          have q2 : ((s[n].toNat : Int) == 10) = false := by rw [p1]; rfl
          have HP : Hid ((s[n].toNat : Int) = 34) := p1
          clear hgo p1
          by_cases h5 : 24 < (n : Int) - i - 1
          · have HF : Hid (R.sbad s.data.toList n i) := Or.inr (Or.inr (by omega))
            go_wp2
            go_ret2
            exact ⟨ret_nk (by unfold R.sEnd; rw [H2.out, if_pos HF.out]) (by unfold R.sKind; rw [H2.out, if_pos HF.out]), rfl⟩
          · have HF : Hid (¬ (R.sbad s.data.toList n i)) := by
              rintro (h | h | h)
              · rw [R.size_eq] at h; omega
              · rw [H10.out, HP.out] at h; exact absurd h (by decide)
              · omega
            go_wp2
            go_ret2
            exact ⟨ret_nk (by unfold R.sEnd; rw [H2.out, if_neg HF.out]; omega) (by unfold R.sKind; rw [H2.out, if_neg HF.out]), rfl⟩
        · have p2 : (s[n].toNat : Int) = 10 := by
            apply Classical.byContradiction; intro h
            exact hgo ⟨hlt, by rw [R.at0_eq s n hlt]; unfold R.insideI; exact decide_eq_true ⟨p1, h⟩⟩
          have q1 : ((s[n].toNat : Int) != 34) = true := by rw [bne_iff_ne]; exact p1
          have q2 : ((s[n].toNat : Int) != 10) = false := by rw [p2]; rfl
          have q3 : ((s[n].toNat : Int) == 10) = true := by rw [p2]; rfl
          have HF : Hid (R.sbad s.data.toList n i) := Or.inr (Or.inl (by rw [H10.out, p2]))
          clear hgo p1 p2
          go_wp2
          go_ret2
          exact ⟨ret_nk (by unfold R.sEnd; rw [H2.out, if_pos HF.out]) (by unfold R.sKind; rw [H2.out, if_pos HF.out]), rfl⟩
      · have hE : ((n : Int) == s.size) = true := by rw [beq_iff_eq]; omega
        have HF : Hid (R.sbad s.data.toList n i) := Or.inl (by rw [R.size_eq]; omega)
        clear hgo
        go_wp2
        go_ret2
        exact ⟨ret_nk (by unfold R.sEnd; rw [H2.out, if_pos HF.out]) (by unfold R.sKind; rw [H2.out, if_pos HF.out]), rfl⟩

set_option maxRecDepth 100000 in
set_option maxHeartbeats 2000000 in
theorem ref_end_sign (s : ByteArray) (i : Nat) (w : World) (hs : s.size ≤ 3000) (hi : i < s.size) (ha : R.smallI s[i].toNat = false) (hd : R.digitI s[i].toNat = false) (hc : s[i].toNat ≠ 34) :
    Calls Tryz.prog 83 #[.string s, .int .i64 i] w fun e w' => e = .returned (.tuple #[.int .i64 ((i + 1 : Nat) : Int), .int .u8 (R.gKind s[i].toNat)]) ∧ w' = w := by
  have hc2 : ((s[i].toNat : Int) == 34) = false := by rw [beq_eq_false_iff_ne]; omega
  have HS : Hid (R.signI s[i].toNat = ((s[i].toNat : Int) == 123 || (s[i].toNat : Int) == 125 || (s[i].toNat : Int) == 59 || (s[i].toNat : Int) == 61 || (s[i].toNat : Int) == 44)) := rfl
  clear hc
  cases h1 : ((s[i].toNat : Int) == 123) <;> cases h2 : ((s[i].toNat : Int) == 125) <;> cases h3 : ((s[i].toNat : Int) == 59) <;> cases h4 : ((s[i].toNat : Int) == 61) <;> cases h5 : ((s[i].toNat : Int) == 44)
  all_goals
    rw [h1, h2, h3, h4, h5] at HS
    go_enter Tryz.func83, Tryz.ntmps83
    go_wp2_with (first | (go_at_call 128; refine (ref_small _ _).mono ?_; rintro e w' ⟨rfl, rfl⟩) | (go_at_call 129; refine (ref_digit _ _).mono ?_; rintro e w' ⟨rfl, rfl⟩))
    go_ret2
    exact ⟨ret_nk (by omega) (by unfold R.gKind; rw [HS.out]; rfl), rfl⟩

theorem ref_end (s : ByteArray) (i : Nat) (w : World) (hs : s.size ≤ 3000) (hi : i < s.size) :
    Calls Tryz.prog 83 #[.string s, .int .i64 i] w fun e w' => e = .returned (.tuple #[.int .i64 ((R.tend s.data.toList i).1 : Int), .int .u8 (R.tend s.data.toList i).2]) ∧ w' = w := by
  unfold R.tend
  rw [R.at0_eq s i hi]
  by_cases ha : R.smallI s[i].toNat = true
  · rw [if_pos ha]; exact ref_end_word s i w hs hi ha
  · rw [if_neg ha]
    have ha' : R.smallI s[i].toNat = false := by rw [Bool.eq_false_iff]; exact ha
    by_cases hd : R.digitI s[i].toNat = true
    · rw [if_pos hd]
      refine (ref_end_digit s i w hs hi ha' hd).mono ?_
      rintro e w' ⟨rfl, rfl⟩
      refine ⟨?_, rfl⟩
      unfold R.dkind
      split <;> rfl
    · rw [if_neg hd]
      have hd' : R.digitI s[i].toNat = false := by rw [Bool.eq_false_iff]; exact hd
      by_cases hc : (s[i].toNat : Int) = 34
      · rw [if_pos hc]
        refine (ref_end_string s i w hs hi (by omega) _ rfl).mono ?_
        rintro e w' ⟨rfl, rfl⟩
        refine ⟨?_, rfl⟩
        unfold R.sEnd R.sKind
        by_cases h : R.sbad s.data.toList (i + 1 + R.span R.insideI (s.data.toList.drop (i + 1))) i
        · rw [if_pos h, if_pos h]; unfold R.sbad at h; rw [if_pos h]
        · rw [if_neg h, if_neg h]; unfold R.sbad at h; rw [if_neg h]
      · rw [if_neg hc]
        refine (ref_end_sign s i w hs hi ha' hd' (by omega)).mono ?_
        rintro e w' ⟨rfl, rfl⟩
        refine ⟨?_, rfl⟩
        unfold R.gKind
        split <;> rfl

end Go.Proofs.YtfocdefchbnkpaaGreatDoor

/- The tokens of a text of at most 3000 bytes: the document's own function lists them in new memory, as the plain twin does. -/
namespace Go.Proofs.YtfocdefchbnkpaaGreatDoor
open Go.RowKit
namespace R

structure Tok where
  k : Int
  s : List UInt8
  at_ : Nat

/-- A token as it lies in memory. -/
def Tok.cells (t : Tok) : List Value := [.int .u8 t.k, .string (str t.s), .int .i64 t.at_]
def tokCells (l : List Tok) : List Value := (l.map Tok.cells).flatten

theorem tokCells_append (a b : List Tok) : tokCells (a ++ b) = tokCells a ++ tokCells b := by simp [tokCells]
theorem tokCells_one (t : Tok) : tokCells [t] = t.cells := by simp [tokCells]
theorem tokCells_len (l : List Tok) : (tokCells l).length = l.length * 3 := by
  induction l with
  | nil => rfl
  | cons t l ih => have : tokCells (t :: l) = t.cells ++ tokCells l := by simp [tokCells]
                   rw [this, List.length_append, ih]; simp [Tok.cells]; omega

def tok (l : List UInt8) (i : Nat) : Tok :=
  ⟨(tend l i).2, if (tend l i).2 = 34 then (l.drop (i + 1)).take ((tend l i).1 - 1 - (i + 1)) else (l.drop i).take ((tend l i).1 - i), i⟩

/-- The tokens from a place on. -/
def toksGo : Nat → List UInt8 → Nat → List Tok
  | 0, _, _ => []
  | n + 1, l, i =>
    if i < l.length then
      if at0 l i = 32 ∨ at0 l i = 10 then toksGo n l (i + 1)
      else if (tend l i).2 = 120 then [tok l i] else tok l i :: toksGo n l (tend l i).1
    else [⟨0, [], l.length⟩]

/-- All tokens of a text. -/
def toks (l : List UInt8) : List Tok := toksGo (l.length + 1) l 0

theorem tend_bd (l : List UInt8) (i : Nat) (h : i < l.length) : i < (tend l i).1 ∧ (tend l i).1 ≤ l.length ∧ ((tend l i).2 = 34 → i + 2 ≤ (tend l i).1) := by
  have hs := span_le smallI (l.drop (i + 1))
  have hd := span_le digitI (l.drop (i + 1))
  have hi := span_le insideI (l.drop (i + 1))
  rw [List.length_drop] at hs hd hi
  unfold tend
  split
  · refine ⟨by omega, by omega, fun h => absurd h (by simp)⟩
  · split
    · split
      · refine ⟨by simp; omega, by simp; omega, fun h => absurd h (by simp)⟩
      · refine ⟨by simp; omega, by simp; omega, fun h => absurd h (by simp)⟩
    · split
      · split
        · refine ⟨by simp; omega, by simp; omega, fun h => absurd h (by simp)⟩
        · rename_i hn
          refine ⟨by simp; omega, ?_, fun _ => by simp⟩
          simp only
          have : i + 1 + span insideI (l.drop (i + 1)) ≠ l.length := fun e => hn (Or.inl e)
          omega
      · split
        · refine ⟨by simp, by simp; omega, fun h => absurd h (by simp)⟩
        · refine ⟨by simp, by simp; omega, fun h => absurd h (by simp)⟩

end R

theorem info45 : (Tryz.prog.info? 115).map (fun i => (i.zero, i.size, i.bytes)) = some (some (.agg #[.int .u8 0, .string ⟨#[]⟩, .int .i64 0]), 3, 32) := by kernel_rfl

theorem ext_str (s : ByteArray) (a b : Nat) : s.extract a b = R.str ((s.data.toList.drop a).take (b - a)) := by
  apply str_ext; rw [R.str_toList, ext_data]
theorem add_off (g j : Nat) : (⟨g, 0, none⟩ : Addr).add j = ⟨g, j, none⟩ := by unfold Addr.add; split <;> simp_all

/-- The cells of a block that has just been made. -/
theorem cells_new (w : World) (cs : Array Value) (t : TypeId) (g : Nat) (hg : g = w.heap.size) : ∀ j u, cs.toList[j]? = some u → (w.alloc (.cells cs t)).cell? ((⟨g, 0, none⟩ : Addr).add j) = some u := by
  intro j u h
  subst hg
  rw [add_off, World.cell?_alloc_new]
  simpa using h

/-- What a slice's owner keeps when a row of its own has grown. -/
theorem grown_below {B : Nat} {a w w' : World} {v : Value} {row : Option Nat} (h : Below B a w) (hg : w.grownBy w' row) (hr : row = v.ownBlock) (hB : B ≤ w.heap.size) (hv : ∀ k, v.ownBlock = some k → B ≤ k) : Below B a w' :=
  h.grown hg hB (by intro k hk; exact hv k (hr ▸ hk))

theorem R.toksGo_blank {l : List UInt8} {n i : Nat} (h : i < l.length) (hb : R.at0 l i = 32 ∨ R.at0 l i = 10) : R.toksGo (n + 1) l i = R.toksGo n l (i + 1) := by
  rw [R.toksGo, if_pos h, if_pos hb]
theorem R.toksGo_bad {l : List UInt8} {n i : Nat} (h : i < l.length) (hb : ¬ (R.at0 l i = 32 ∨ R.at0 l i = 10)) (hk : (R.tend l i).2 = 120) : R.toksGo (n + 1) l i = [R.tok l i] := by
  rw [R.toksGo, if_pos h, if_neg hb, if_pos hk]
theorem R.toksGo_good {l : List UInt8} {n i : Nat} (h : i < l.length) (hb : ¬ (R.at0 l i = 32 ∨ R.at0 l i = 10)) (hk : (R.tend l i).2 ≠ 120) : R.toksGo (n + 1) l i = R.tok l i :: R.toksGo n l (R.tend l i).1 := by
  rw [R.toksGo, if_pos h, if_neg hb, if_neg hk]
theorem R.toksGo_end {l : List UInt8} {n i : Nat} (h : ¬ i < l.length) : R.toksGo (n + 1) l i = [⟨0, [], l.length⟩] := by
  rw [R.toksGo, if_neg h]
theorem R.toksGo_fuel {l : List UInt8} : ∀ {n m i : Nat}, l.length + 1 - i ≤ n → l.length + 1 - i ≤ m → i ≤ l.length → R.toksGo n l i = R.toksGo m l i := by
  intro n
  induction n with
  | zero => intro m i h1 h2 h3; omega
  | succ n ih =>
    intro m i h1 h2 h3
    match m, h2 with
    | 0, h2 => omega
    | m + 1, h2 =>
      by_cases hi : i < l.length
      · by_cases hb : R.at0 l i = 32 ∨ R.at0 l i = 10
        · rw [R.toksGo_blank hi hb, R.toksGo_blank hi hb]; exact ih (by omega) (by omega) (by omega)
        · have bd := R.tend_bd l i hi
          by_cases hk : (R.tend l i).2 = 120
          · rw [R.toksGo_bad hi hb hk, R.toksGo_bad hi hb hk]
          · rw [R.toksGo_good hi hb hk, R.toksGo_good hi hb hk, ih (m := m) (by omega) (by omega) (by omega)]
      · rw [R.toksGo_end hi, R.toksGo_end hi]

set_option maxRecDepth 100000 in
set_option maxHeartbeats 2000000 in
theorem ref_Tokens (s : ByteArray) (w : World) (hs : s.size ≤ 3000) :
    Calls Tryz.prog 50 #[.string s] w fun e w' => ∃ v, e = .returned v ∧ w'.ownsRow w.heap.size 115 3 v (R.toks s.data.toList).length (R.tokCells (R.toks s.data.toList)) ∧ Below w.heap.size w w' := by
  obtain ⟨i0, hi, hz0, hz1, hz2⟩ := info_parts info45
  go_enter Tryz.func50, Tryz.ntmps50
  go_wp2
  go_loopw [3, 4] (fun v i wr => ∃ (k : Nat) (done : List R.Tok), k ≤ s.size ∧ done.length ≤ k ∧ i = .int .i64 k ∧ wr.ownsRow w.heap.size 115 3 v done.length (R.tokCells done) ∧
      Hid (done ++ R.toksGo (s.size + 1 - k) s.data.toList k = R.toks s.data.toList) ∧ Below w.heap.size w wr) (fun _ i _ => s.size - (intOf i).toNat)
  case atStart => exact ⟨0, [], Nat.zero_le _, Nat.zero_le _, rfl, World.ownsRow_nil _ _ _ _, by show _ = _; rw [Nat.sub_zero, ← R.size_eq]; rfl, Below.refl _ _⟩
  case round =>
    obtain ⟨k, done, hk, hdn, rfl, hown, HL, hb⟩ := hrel
    by_cases hlt : k < s.size
    · have hlt2 : k < s.data.toList.length := by rw [R.size_eq]; exact hlt
      have e1 : s.size + 1 - k = (s.size - k) + 1 := by omega
      by_cases hbl : (s[k].toNat : Int) = 32 ∨ (s[k].toNat : Int) = 10
      · have H2 : Hid (done ++ R.toksGo (s.size + 1 - (k + 1)) s.data.toList (k + 1) = R.toks s.data.toList) := by
          have := HL.out
          rw [e1, R.toksGo_blank hlt2 (by rw [R.at0_eq s k hlt]; exact hbl)] at this
          rw [← this, show s.size + 1 - (k + 1) = s.size - k by omega]; rfl
        clear HL e1
        rcases hbl with h | h
        · have g1 : ((s[k].toNat : Int) == 32) = true := by rw [h]; rfl
          clear h
          go_wp2
          exact ⟨⟨k + 1, done, by omega, by omega, by go_num, hown, H2, hb⟩, by simp [intOf]; omega⟩
        · have g1 : ((s[k].toNat : Int) == 32) = false := by rw [h]; rfl
          have g2 : ((s[k].toNat : Int) == 10) = true := by rw [h]; rfl
          clear h
          go_wp2
          exact ⟨⟨k + 1, done, by omega, by omega, by go_num, hown, H2, hb⟩, by simp [intOf]; omega⟩
      · have hbl2 : ¬ (R.at0 s.data.toList k = 32 ∨ R.at0 s.data.toList k = 10) := by rw [R.at0_eq s k hlt]; exact hbl
        have g1 : ((s[k].toNat : Int) == 32) = false := by rw [beq_eq_false_iff_ne]; exact fun h => hbl (Or.inl h)
        have g2 : ((s[k].toNat : Int) == 10) = false := by rw [beq_eq_false_iff_ne]; exact fun h => hbl (Or.inr h)
        have bd := R.tend_bd s.data.toList k hlt2
        have HB := R.toksGo_bad (n := s.size - k) hlt2 hbl2
        have HG := R.toksGo_good (n := s.size - k) hlt2 hbl2
        have HT : Hid (R.tok s.data.toList k = ⟨(R.tend s.data.toList k).2, if (R.tend s.data.toList k).2 = 34 then (s.data.toList.drop (k + 1)).take ((R.tend s.data.toList k).1 - 1 - (k + 1)) else (s.data.toList.drop k).take ((R.tend s.data.toList k).1 - k), k⟩) := rfl
        have hL := HL.out
        rw [e1] at hL
        rw [R.size_eq] at bd
        have hE := ref_end s k
        generalize R.tend s.data.toList k = kk at *
        obtain ⟨en, kind⟩ := kk
        simp only at bd hE HB HG HT
        obtain ⟨b1, b2, b3⟩ := bd
        have HE : Hid _ := hE
        have HBad : Hid (kind = 120 → done ++ [R.tok s.data.toList k] = R.toks s.data.toList) := fun h => by rw [← hL, HB h]
        have HGood : Hid (kind ≠ 120 → (done ++ [R.tok s.data.toList k]) ++ R.toksGo (s.size + 1 - en) s.data.toList en = R.toks s.data.toList) := fun h => by
          rw [← hL, HG h, List.append_assoc, R.toksGo_fuel (n := s.size - k) (m := s.size + 1 - en) (by rw [R.size_eq]; omega) (by rw [R.size_eq]; omega) (by rw [R.size_eq]; exact b2)]; rfl
        clear hE hbl hbl2 HB HG hL HL e1
        by_cases h34 : kind = 34
        · subst h34
          have b4 := b3 rfl
          have HC : Hid ((R.tok s.data.toList k).cells = [.int .u8 34, .string (s.extract (k + 1) (en - 1)), .int .i64 k]) := by
            rw [HT.out, if_pos rfl]; unfold R.Tok.cells
            rw [ext_str]; rfl
          clear HT b3
          go_wp2_with (first
            | (go_at_call 83; refine (HE.out _ hs hlt).mono ?_; rintro e w' ⟨rfl, rfl⟩)
            | (at_builtin; refine wpList_append_own _ rfl _ _ 110 rfl w.heap.size 115 i0 _ 3 32 Tryz.underlying110 hi hz0 hz1 hz2 rfl (by decide) _ _ _ rfl ((hown.alloc _).alloc _) ⟨w'.heap.size + 1, 0, none⟩ 1 1 [.int .u8 34, .string (s.extract (k + 1) (en - 1)), .int .i64 k] rfl rfl ?c1 ?c2 ?c3 ?c4 ?c5 ?_))
          case c1 => exact cells_new _ #[_, _, _] _ _ (by simp)
          case c2 => intro u hu; simp at hu; rcases hu with rfl | rfl | rfl <;> rfl
          case c3 => unfold maxLen; omega
          case c4 => omega
          case c5 => have := hb.size; simp; omega
          intro v' w1 hown' hgrow _
          have hb1 : Below w.heap.size w w1 := ((hb.alloc hb.size _).alloc (by have := hb.size; simp; omega) _).grown hgrow (by have := hb.size; simp; omega) (fun k hk => (hown.lt k hk).1)
          clear hgrow hown
          go_wp2
          go_roundw
          case rel => exact ⟨en, done ++ [R.tok s.data.toList k], b2, by simp; omega, rfl, by rw [R.tokCells_append, R.tokCells_one, HC.out, List.length_append]; exact hown', HGood.out (by decide), hb1⟩
          case measure => simp [intOf]; omega
        · have g34 : (kind == 34) = false := by rw [beq_eq_false_iff_ne]; exact h34
          have HC : Hid ((R.tok s.data.toList k).cells = [.int .u8 kind, .string (s.extract k en), .int .i64 k]) := by
            rw [HT.out, if_neg h34]; unfold R.Tok.cells
            rw [ext_str]; rfl
          clear HT b3 h34
          by_cases h120 : kind = 120
          · subst h120
            have HF := HBad.out rfl
            have HF2 : Hid _ := HF
            clear HF HGood HBad
            go_wp2_with (first
            | (go_at_call 83; refine (HE.out _ hs hlt).mono ?_; rintro e w' ⟨rfl, rfl⟩)
            | (at_builtin; refine wpList_append_own _ rfl _ _ 110 rfl w.heap.size 115 i0 _ 3 32 Tryz.underlying110 hi hz0 hz1 hz2 rfl (by decide) _ _ _ rfl ((hown.alloc _).alloc _) ⟨w'.heap.size + 1, 0, none⟩ 1 1 [.int .u8 120, .string (s.extract k en), .int .i64 k] rfl rfl ?c1 ?c2 ?c3 ?c4 ?c5 ?_))
            case c1 => exact cells_new _ #[_, _, _] _ _ (by simp)
            case c2 => intro u hu; simp at hu; rcases hu with rfl | rfl | rfl <;> rfl
            case c3 => unfold maxLen; omega
            case c4 => omega
            case c5 => have := hb.size; simp; omega
            intro v' w1 hown' hgrow _
            have hb1 : Below w.heap.size w w1 := ((hb.alloc hb.size _).alloc (by have := hb.size; simp; omega) _).grown hgrow (by have := hb.size; simp; omega) (fun k hk => (hown.lt k hk).1)
            clear hgrow hown
            go_wp2
            go_ret
            exact ⟨_, rfl, by rw [← HF2.out, R.tokCells_append, R.tokCells_one, HC.out, List.length_append]; exact hown', hb1⟩
          · have g120 : (kind == 120) = false := by rw [beq_eq_false_iff_ne]; exact h120
            have HF := HGood.out h120
            have HF2 : Hid _ := HF
            clear HF HGood HBad h120
            go_wp2_with (first
            | (go_at_call 83; refine (HE.out _ hs hlt).mono ?_; rintro e w' ⟨rfl, rfl⟩)
            | (at_builtin; refine wpList_append_own _ rfl _ _ 110 rfl w.heap.size 115 i0 _ 3 32 Tryz.underlying110 hi hz0 hz1 hz2 rfl (by decide) _ _ _ rfl ((hown.alloc _).alloc _) ⟨w'.heap.size + 1, 0, none⟩ 1 1 [.int .u8 kind, .string (s.extract k en), .int .i64 k] rfl rfl ?c1 ?c2 ?c3 ?c4 ?c5 ?_))
            case c1 => exact cells_new _ #[_, _, _] _ _ (by simp)
            case c2 => intro u hu; simp at hu; rcases hu with rfl | rfl | rfl <;> rfl
            case c3 => unfold maxLen; omega
            case c4 => omega
            case c5 => have := hb.size; simp; omega
            intro v' w1 hown' hgrow _
            have hb1 : Below w.heap.size w w1 := ((hb.alloc hb.size _).alloc (by have := hb.size; simp; omega) _).grown hgrow (by have := hb.size; simp; omega) (fun k hk => (hown.lt k hk).1)
            clear hgrow hown
            go_wp2
            go_roundw
            case rel => exact ⟨en, done ++ [R.tok s.data.toList k], b2, by simp; omega, rfl, by rw [R.tokCells_append, R.tokCells_one, HC.out, List.length_append]; exact hown', HF2, hb1⟩
            case measure => simp [intOf]; omega
    · have H2 : Hid (done ++ [⟨0, [], s.size⟩] = R.toks s.data.toList) := by
        have := HL.out
        rw [show s.size + 1 - k = (s.size - k) + 1 by omega, R.toksGo_end (by rw [R.size_eq]; exact hlt), R.size_eq] at this
        exact this
      clear HL
      go_wp2_with (at_builtin; refine wpList_append_own _ rfl _ _ 110 rfl w.heap.size 115 i0 _ 3 32 Tryz.underlying110 hi hz0 hz1 hz2 rfl (by decide) _ _ _ rfl (hown.alloc _) ⟨wr.heap.size, 0, none⟩ 1 1 [.int .u8 0, .string ⟨#[]⟩, .int .i64 s.size] rfl rfl ?c1 ?c2 ?c3 ?c4 ?c5 ?_)
      case c1 => exact cells_new _ #[_, _, _] _ _ (by simp)
      case c2 => intro u hu; simp at hu; rcases hu with rfl | rfl | rfl <;> rfl
      case c3 => unfold maxLen; omega
      case c4 => omega
      case c5 => have := hb.size; simp; omega
      intro v' w1 hown' hgrow _
      have hb1 : Below w.heap.size w w1 := (hb.alloc hb.size _).grown hgrow (by have := hb.size; simp; omega) (fun k hk => (hown.lt k hk).1)
      clear hgrow hown
      go_wp2
      go_ret
      exact ⟨_, rfl, by rw [← H2.out, R.tokCells_append, R.tokCells_one, List.length_append]; exact hown', hb1⟩

end Go.Proofs.YtfocdefchbnkpaaGreatDoor
