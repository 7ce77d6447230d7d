/- The tokens of a text of at most 3000 bytes: there are not many, each is short, numbers are small, and behind each but the last there is another. -/
import Derived.Test.YtfocdefchbnkpaaGreatDoorRefE
namespace Go.Proofs.YtfocdefchbnkpaaGreatDoor
open Go.RowKit
namespace R

theorem wrap_id (n : Int) (h0 : 0 ≤ n) (h : n < 9223372036854775808) : wrap64 n = n := by unfold wrap64; omega
theorem numStep_digit (n : Int) (c : UInt8) (h0 : 0 ≤ n) (h1 : n ≤ 100000000) (hc : digitI c.toNat = true) : numStep n c = 10 * n + (c.toNat - 48) ∧ 0 ≤ (c.toNat : Int) - 48 ∧ (c.toNat : Int) - 48 ≤ 9 := by
  unfold digitI at hc
  simp only [Bool.and_eq_true, decide_eq_true_eq] at hc
  unfold numStep
  have e : ((c.toNat : Int) - 48) % 256 = c.toNat - 48 := by omega
  rw [e, wrap_id (10 * n) (by omega) (by omega), wrap_id _ (by omega) (by omega)]
  omega
theorem num_le (l : List UInt8) (hd : ∀ c ∈ l, digitI c.toNat = true) (hl : l.length ≤ 5) : 0 ≤ num l ∧ num l ≤ 99999 := by
  have key : ∀ (l : List UInt8) (acc : Int) (m : Nat), (∀ c ∈ l, digitI c.toNat = true) → 0 ≤ acc → acc + 1 ≤ (10 : Int) ^ m → m + l.length ≤ 5 → 0 ≤ l.foldl numStep acc ∧ l.foldl numStep acc + 1 ≤ (10 : Int) ^ (m + l.length) := by
    intro l
    induction l with
    | nil => intro acc m _ h0 h1 _; exact ⟨h0, h1⟩
    | cons c l ih =>
      intro acc m hd h0 h1 hm
      have hp : (10 : Int) ^ m ≤ 100000 := by
        have : m ≤ 5 := by omega
        match m, this with
        | 0, _ => decide
        | 1, _ => decide
        | 2, _ => decide
        | 3, _ => decide
        | 4, _ => decide
        | 5, _ => decide
      obtain ⟨e, g0, g1⟩ := numStep_digit acc c h0 (by omega) (hd c (by simp))
      rw [List.foldl_cons, e]
      have := ih (10 * acc + (c.toNat - 48)) (m + 1) (fun d hdm => hd d (by simp [hdm])) (by omega) (by rw [Int.pow_succ]; omega) (by simp at hm; omega)
      rw [List.length_cons, show m + (l.length + 1) = m + 1 + l.length by omega]
      exact this
  have := key l 0 0 hd (by omega) (by decide) (by omega)
  unfold num
  refine ⟨this.1, ?_⟩
  have h5 : (10 : Int) ^ (0 + l.length) ≤ 100000 := by
    have : l.length ≤ 5 := hl
    generalize l.length = m at *
    match m, this with
    | 0, _ => decide
    | 1, _ => decide
    | 2, _ => decide
    | 3, _ => decide
    | 4, _ => decide
    | 5, _ => decide
  omega

theorem span_all (p : Int → Bool) (l : List UInt8) : ∀ c ∈ l.take (span p l), p c.toNat = true := by
  induction l with
  | nil => intro c hc; simp at hc
  | cons a l ih =>
    unfold span
    split
    · rename_i h
      intro c hc
      rw [List.take_succ_cons] at hc
      rcases List.mem_cons.1 hc with rfl | hc
      · exact h
      · exact ih c hc
    · intro c hc; simp at hc

/-- A number's token: at most five digits. -/
theorem tok_num (l : List UInt8) (i : Nat) (hi : i < l.length) (h : (tend l i).2 = 49) : 0 ≤ num (tok l i).s ∧ num (tok l i).s ≤ 99999 := by
  have hs : (tok l i).s = (l.drop i).take ((tend l i).1 - i) := by unfold tok; rw [h]; rfl
  rw [hs]
  unfold tend at h ⊢
  split at h
  · simp at h
  · rename_i h1
    rw [if_neg h1]
    split at h
    · rename_i h2
      rw [if_pos h2]
      split at h
      · simp at h
      · rename_i h3
        rw [if_neg h3]
        simp only
        rw [List.drop_eq_getElem_cons hi, show i + 1 + span digitI (l.drop (i + 1)) - i = span digitI (l.drop (i + 1)) + 1 by omega, List.take_succ_cons]
        have hlen : (l[i] :: (l.drop (i + 1)).take (span digitI (l.drop (i + 1)))).length ≤ 5 := by
          rw [List.length_cons, List.length_take]; omega
        refine num_le _ ?_ hlen
        intro c hc
        rcases List.mem_cons.1 hc with rfl | hc
        · unfold at0 at h2; rw [List.getD_eq_getElem?_getD, List.getElem?_eq_getElem hi] at h2; exact h2
        · exact span_all _ _ c hc
    · split at h
      · split at h <;> simp at h
      · split at h <;> simp at h

theorem tok_len (l : List UInt8) (i : Nat) : (tok l i).s.length ≤ l.length := by
  unfold tok; simp only
  split <;> (rw [List.length_take, List.length_drop]; omega)
theorem tok_k (l : List UInt8) (i : Nat) : (tok l i).k = (tend l i).2 := rfl

theorem toksGo_ok (l : List UInt8) : ∀ (n i : Nat), l.length + 1 - i ≤ n → i ≤ l.length →
    0 < (toksGo n l i).length ∧ (toksGo n l i).length ≤ l.length + 1 - i ∧
    (∀ (k : Nat) (t : Tok), (toksGo n l i)[k]? = some t → t.k ≠ 0 → t.k ≠ 120 → k + 1 < (toksGo n l i).length) ∧
    (∀ (k : Nat) (t : Tok), (toksGo n l i)[k]? = some t → t.s.length ≤ l.length ∧ (t.k = 49 → 0 ≤ num t.s ∧ num t.s ≤ 99999)) := by
  intro n
  induction n with
  | zero => intro i h1 h2; omega
  | succ n ih =>
    intro i h1 h2
    by_cases hi : i < l.length
    · by_cases hb : at0 l i = 32 ∨ at0 l i = 10
      · rw [toksGo_blank hi hb]
        obtain ⟨a, b, c, d⟩ := ih (i + 1) (by omega) (by omega)
        exact ⟨a, by omega, c, d⟩
      · have bd := tend_bd l i hi
        by_cases hk : (tend l i).2 = 120
        · rw [toksGo_bad hi hb hk]
          refine ⟨by simp, by simp; omega, ?_, ?_⟩
          · intro k t ht _ h120
            match k with
            | 0 => simp at ht; subst ht; exact absurd hk h120
            | k + 1 => simp at ht
          · intro k t ht
            match k with
            | 0 => simp at ht; subst ht; exact ⟨tok_len l i, fun h => tok_num l i hi h⟩
            | k + 1 => simp at ht
        · rw [toksGo_good hi hb hk]
          obtain ⟨a, b, c, d⟩ := ih (tend l i).1 (by omega) bd.2.1
          refine ⟨by simp, by rw [List.length_cons]; omega, ?_, ?_⟩
          · intro k t ht h0 h120
            rw [List.length_cons]
            match k with
            | 0 => omega
            | k + 1 =>
              rw [List.getElem?_cons_succ] at ht
              have := c k t ht h0 h120
              omega
          · intro k t ht
            match k with
            | 0 => simp at ht; subst ht; exact ⟨tok_len l i, fun h => tok_num l i hi h⟩
            | k + 1 => rw [List.getElem?_cons_succ] at ht; exact d k t ht
    · rw [toksGo_end hi]
      refine ⟨by simp, by simp; omega, ?_, ?_⟩
      · intro k t ht h0 _
        match k with
        | 0 => simp at ht; subst ht; exact absurd rfl h0
        | k + 1 => simp at ht
      · intro k t ht
        match k with
        | 0 => simp at ht; subst ht; exact ⟨by simp, fun h => by simp at h⟩
        | k + 1 => simp at ht

theorem toks_ok (l : List UInt8) (h : l.length ≤ 3000) : Ok (toks l) ∧ 0 < (toks l).length := by
  obtain ⟨a, b, c, d⟩ := toksGo_ok l (l.length + 1) 0 (by omega) (by omega)
  refine ⟨⟨c, ?_, fun k t ht => ?_, fun k t ht hk => (d k t ht).2 hk⟩, a⟩
  · unfold toks; omega
  · have := (d k t ht).1; omega

end R
end Go.Proofs.YtfocdefchbnkpaaGreatDoor
