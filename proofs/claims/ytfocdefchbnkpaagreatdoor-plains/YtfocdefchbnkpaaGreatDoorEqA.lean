/- The tokens that the program finds are those that the document's own function lists. -/
import Derived.Test.YtfocdefchbnkpaaGreatDoorProT
import Derived.Test.YtfocdefchbnkpaaGreatDoorRefQ
namespace Go.Proofs.YtfocdefchbnkpaaGreatDoor
open Go.RowKit

theorem idx_nil (x : UInt8) : Lib.index [] [x] = -1 := rfl
theorem toNat34 (c : UInt8) : ((c.toNat : Int) = 34 ↔ c = 34) := by
  constructor
  · intro h; apply UInt8.toNat_inj.1; show c.toNat = 34; omega
  · intro h; subst h; rfl
theorem toNat10 (c : UInt8) : ((c.toNat : Int) = 10 ↔ c = 10) := by
  constructor
  · intro h; apply UInt8.toNat_inj.1; show c.toNat = 10; omega
  · intro h; subst h; rfl
/-- Where the first quote or newline stands, and what the two searches say. -/
theorem P.str_case (t : List UInt8) :
    (R.at0 t (R.span R.insideI t) = 34 ∧ R.span R.insideI t < t.length ∧ Lib.index t [34] = R.span R.insideI t ∧ Lib.index (t.take (R.span R.insideI t)) [10] = -1) ∨
    ((R.span R.insideI t = t.length ∨ R.at0 t (R.span R.insideI t) = 10) ∧ (Lib.index t [34] = -1 ∨ (0 ≤ Lib.index t [34] ∧ 0 ≤ Lib.index (t.take (Lib.index t [34]).toNat) [10]))) := by
  induction t with
  | nil => right; exact ⟨Or.inl rfl, Or.inl rfl⟩
  | cons c r ih =>
    rw [R.span]
    by_cases h34 : c = 34
    · left
      have hp : R.insideI c.toNat = false := by subst h34; rfl
      rw [if_neg (by rw [hp]; simp)]
      refine ⟨by subst h34; rfl, by simp, by rw [idx_cons, if_pos h34]; rfl, by simp [idx_nil]⟩
    · by_cases h10 : c = 10
      · right
        have hp : R.insideI c.toNat = false := by subst h10; rfl
        rw [if_neg (by rw [hp]; simp)]
        refine ⟨Or.inr (by subst h10; rfl), ?_⟩
        rw [idx_cons, if_neg h34]
        by_cases h2 : Lib.index r [34] = -1
        · left; rw [if_pos h2]
        · right
          rw [if_neg h2]
          have hg := Lib.index_ge r [34]
          refine ⟨by omega, ?_⟩
          obtain ⟨n, hn⟩ : ∃ n, (Lib.index r [34] + 1).toNat = n + 1 := ⟨(Lib.index r [34]).toNat, by omega⟩
          rw [hn, List.take_succ_cons, idx_cons, if_pos h10]; exact Int.le_refl 0
      · have hp : R.insideI c.toNat = true := by
          unfold R.insideI; apply decide_eq_true
          exact ⟨fun e => h34 ((toNat34 c).1 e), fun e => h10 ((toNat10 c).1 e)⟩
        rw [if_pos hp]
        have hat : ∀ n, R.at0 (c :: r) (n + 1) = R.at0 r n := fun n => rfl
        rw [hat]
        rcases ih with ⟨h1, h2, h3, h4⟩ | ⟨h1, h2⟩
        · left
          refine ⟨h1, by simp; omega, ?_, ?_⟩
          · rw [idx_cons, if_neg h34, if_neg (by omega), h3]; rfl
          · rw [List.take_succ_cons, idx_cons, if_neg h10, if_pos h4]
        · right
          refine ⟨?_, ?_⟩
          · rcases h1 with h1 | h1
            · left; simp [h1]
            · right; exact h1
          · rw [idx_cons, if_neg h34]
            rcases h2 with h2 | ⟨h2, h3⟩
            · left; rw [if_pos h2]
            · right
              rw [if_neg (by omega)]
              refine ⟨by omega, ?_⟩
              obtain ⟨n, hn⟩ : ∃ n : Nat, Lib.index r [34] = (n : Int) := ⟨(Lib.index r [34]).toNat, by omega⟩
              rw [hn] at h3 ⊢
              rw [show ((n : Int) + 1).toNat = n + 1 by omega, List.take_succ_cons, idx_cons, if_neg h10]
              rw [show ((n : Int)).toNat = n by omega] at h3
              rw [if_neg (by omega)]; omega

/-- A token of the program's says what one of the document's says. -/
inductive TokSim (t : R.Tok) (p : P.Tk) : Prop
  | fin (h : p.at_ = t.at_) (k : t.k = 0) (j : p.k = 0) (r : p.raw = [])
  | word (h : p.at_ = t.at_) (k : t.k = 119) (j : p.k = 1) (r : p.raw = t.s) (c : UInt8) (cs : List UInt8) (e : t.s = c :: cs) (hc : R.smallI c.toNat = true)
  | num (h : p.at_ = t.at_) (k : t.k = 49) (j : p.k = 2) (r : p.raw = t.s) (c : UInt8) (cs : List UInt8) (e : t.s = c :: cs) (hc : R.digitI c.toNat = true)
  | str (h : p.at_ = t.at_) (k : t.k = 34) (j : p.k = 3) (r : p.raw = 34 :: t.s ++ [34])
  | sign (h : p.at_ = t.at_) (k : t.k = 115) (j : p.k = 4) (r : p.raw = t.s) (c : UInt8) (e : t.s = [c]) (hc : R.signI c.toNat = true)
  | wrong (h : p.at_ = t.at_) (k : t.k = 120) (j : p.k = 5) (r : p.raw = [])

theorem TokSim.place {t : R.Tok} {p : P.Tk} (h : TokSim t p) : p.at_ = t.at_ := by cases h <;> assumption

theorem P.span_blank {l : List UInt8} {i : Nat} (h : i < l.length) (hb : R.at0 l i = 32 ∨ R.at0 l i = 10) : P.tokenFrom l i = P.tokenFrom l (i + 1) := by
  have e : P.placeFrom l i = P.placeFrom l (i + 1) := by
    unfold P.placeFrom
    rw [List.drop_eq_getElem_cons h, R.span, if_pos]
    · omega
    · unfold R.at0 at hb
      rw [List.getD_eq_getElem?_getD, List.getElem?_eq_getElem h] at hb
      simp only [Option.getD_some] at hb
      unfold P.blankI
      rcases hb with hb | hb <;> rw [hb] <;> rfl
  unfold P.tokenFrom; rw [e]
theorem P.place_here {l : List UInt8} {i : Nat} (h : i < l.length) (hb : ¬ (R.at0 l i = 32 ∨ R.at0 l i = 10)) : P.placeFrom l i = i := by
  unfold P.placeFrom
  rw [List.drop_eq_getElem_cons h, R.span, if_neg]
  · rfl
  · unfold R.at0 at hb
    rw [List.getD_eq_getElem?_getD, List.getElem?_eq_getElem h] at hb
    simp only [Option.getD_some] at hb
    unfold P.blankI
    simp only [Bool.or_eq_true, beq_iff_eq]
    exact hb


theorem R.at0_cons {l : List UInt8} {i : Nat} (h : i < l.length) : ∃ c, l.drop i = c :: l.drop (i + 1) ∧ R.at0 l i = c.toNat := by
  refine ⟨l[i], List.drop_eq_getElem_cons h, ?_⟩
  unfold R.at0; rw [List.getD_eq_getElem?_getD, List.getElem?_eq_getElem h]; rfl
theorem R.at0_drop (l : List UInt8) (i n : Nat) : R.at0 (l.drop i) n = R.at0 l (i + n) := by
  unfold R.at0; rw [List.getD_eq_getElem?_getD, List.getD_eq_getElem?_getD, List.getElem?_drop]

theorem P.str_case2 (t : List UInt8) :
    (R.at0 t (R.span R.insideI t) = 34 ∧ R.span R.insideI t < t.length ∧ P.strBad t = decide (24 < R.span R.insideI t) ∧ (Lib.cut t [34]).1.length = R.span R.insideI t) ∨
    ((R.span R.insideI t = t.length ∨ R.at0 t (R.span R.insideI t) = 10) ∧ P.strBad t = true) := by
  rcases P.str_case t with ⟨h1, h2, h3, h4⟩ | ⟨h1, h2⟩
  · left
    have hc : Lib.cut t [34] = (t.take (R.span R.insideI t), t.drop (R.span R.insideI t + 1), true) := by
      unfold Lib.cut; rw [if_pos (by omega), h3]; rfl
    have hl : (t.take (R.span R.insideI t)).length = R.span R.insideI t := by rw [List.length_take]; omega
    refine ⟨h1, h2, ?_, by rw [hc]; exact hl⟩
    unfold P.strBad Lib.contains
    rw [hc]; simp only
    rw [hl, h4]; simp
  · right
    refine ⟨h1, ?_⟩
    unfold P.strBad Lib.contains
    rcases h2 with h2 | ⟨h2, h3⟩
    · have hc : Lib.cut t [34] = (t, [], false) := by unfold Lib.cut; rw [if_neg (by omega)]
      rw [hc]; rfl
    · have hc : Lib.cut t [34] = (t.take (Lib.index t [34]).toNat, t.drop ((Lib.index t [34]).toNat + 1), true) := by unfold Lib.cut; rw [if_pos h2]; rfl
      rw [hc]; simp only; rw [decide_eq_true h3]; simp

/-- A token that begins here. -/
theorem tok_here {l : List UInt8} {i : Nat} (h : i < l.length) (hb : ¬ (R.at0 l i = 32 ∨ R.at0 l i = 10)) : TokSim (R.tok l i) (P.tokenFrom l i) ∧ ((R.tend l i).2 ≠ 120 → (R.tend l i).1 = i + (P.tokenFrom l i).raw.length) := by
  obtain ⟨c, hd, ha⟩ := R.at0_cons h
  have hsm : R.span R.smallI (l.drop (i + 1)) ≤ l.length - (i + 1) := by have := R.span_le R.smallI (l.drop (i + 1)); rwa [List.length_drop] at this
  have hdg : R.span R.digitI (l.drop (i + 1)) ≤ l.length - (i + 1) := by have := R.span_le R.digitI (l.drop (i + 1)); rwa [List.length_drop] at this
  unfold P.tokenFrom
  rw [P.place_here h hb]
  unfold R.tok R.tend P.measure
  rw [hd, ha]
  simp only
  by_cases h1 : R.smallI c.toNat = true
  · rw [if_pos h1, if_pos h1]
    simp only
    rw [R.span, if_pos h1]
    refine ⟨.word rfl rfl rfl ?_ c ((l.drop (i + 1)).take (R.span R.smallI (l.drop (i + 1)))) ?_ h1, fun _ => ?_⟩
    · rw [if_neg (by decide), show i + 1 + R.span R.smallI (l.drop (i + 1)) - i = R.span R.smallI (l.drop (i + 1)) + 1 by omega]
    · rw [if_neg (by decide), show i + 1 + R.span R.smallI (l.drop (i + 1)) - i = R.span R.smallI (l.drop (i + 1)) + 1 by omega, List.take_succ_cons]
    · rw [List.take_succ_cons, List.length_cons, List.length_take, List.length_drop]; omega
  · rw [if_neg h1, if_neg h1]
    by_cases h2 : R.digitI c.toNat = true
    · rw [if_pos h2, if_pos h2]
      unfold P.measureN
      rw [R.span, if_pos h2]
      by_cases h5 : 5 < R.span R.digitI (l.drop (i + 1)) + 1
      · rw [if_pos h5, if_pos (by omega)]
        exact ⟨.wrong rfl rfl rfl rfl, fun h => absurd rfl h⟩
      · rw [if_neg h5, if_neg (by omega)]
        simp only
        refine ⟨.num rfl rfl rfl ?_ c ((l.drop (i + 1)).take (R.span R.digitI (l.drop (i + 1)))) ?_ h2, fun _ => ?_⟩
        · rw [if_neg (by decide), show i + 1 + R.span R.digitI (l.drop (i + 1)) - i = R.span R.digitI (l.drop (i + 1)) + 1 by omega]
        · rw [if_neg (by decide), show i + 1 + R.span R.digitI (l.drop (i + 1)) - i = R.span R.digitI (l.drop (i + 1)) + 1 by omega, List.take_succ_cons]
        · rw [List.take_succ_cons, List.length_cons, List.length_take, List.length_drop]; omega
    · rw [if_neg h2, if_neg h2]
      by_cases h3 : (c.toNat : Int) = 34
      · have h3n : c.toNat = 34 := by omega
        rw [if_pos h3, if_pos h3n]
        unfold P.measureS
        rw [List.drop_succ_cons, List.drop_zero]
        have hc := P.str_case2 (l.drop (i + 1))
        rw [R.at0_drop, List.length_drop] at hc
        have hin : R.span R.insideI (l.drop (i + 1)) ≤ l.length - (i + 1) := by have := R.span_le R.insideI (l.drop (i + 1)); rwa [List.length_drop] at this
        rcases hc with ⟨g1, g2, g3, g4⟩ | ⟨g1, g2⟩
        · rw [g3, g4]
          by_cases h24 : 24 < R.span R.insideI (l.drop (i + 1))
          · rw [if_pos (decide_eq_true h24), if_pos (Or.inr (Or.inr (by omega)))]
            exact ⟨.wrong rfl rfl rfl rfl, fun h => absurd rfl h⟩
          · have q1 : ¬ (i + 1 + R.span R.insideI (l.drop (i + 1)) = l.length ∨ R.at0 l (i + 1 + R.span R.insideI (l.drop (i + 1))) = 10 ∨ 24 < i + 1 + R.span R.insideI (l.drop (i + 1)) - i - 1) := by rw [g1]; omega
            have q2 : ¬ (decide (24 < R.span R.insideI (l.drop (i + 1))) = true) := by simpa using h24
            rw [if_neg q1, if_neg q2]
            simp only
            refine ⟨.str rfl rfl rfl ?_, fun _ => ?_⟩
            · simp only [if_true]
              rw [show i + 1 + R.span R.insideI (l.drop (i + 1)) + 1 - 1 - (i + 1) = R.span R.insideI (l.drop (i + 1)) by omega]
              rw [List.take_succ_cons, show c = 34 from (toNat34 c).1 h3]
              rw [List.take_succ_eq_append_getElem (by rw [List.length_drop]; omega)]
              show 34 :: _ = 34 :: _
              congr 2
              obtain ⟨d, e1, e2⟩ := R.at0_cons (l := l) (i := i + 1 + R.span R.insideI (l.drop (i + 1))) (by omega)
              rw [g1] at e2
              have hd34 : d = 34 := (toNat34 d).1 e2.symm
              rw [List.getElem_drop]
              have e3 := List.drop_eq_getElem_cons (l := l) (i := i + 1 + R.span R.insideI (l.drop (i + 1))) (by omega)
              rw [e3] at e1
              rw [(List.cons.inj e1).1, hd34]
            · rw [List.take_succ_cons, List.length_cons, List.length_take, List.length_drop]; omega
        · rw [if_pos g2, if_pos (by rcases g1 with g1 | g1; exact Or.inl (by omega); exact Or.inr (Or.inl g1))]
          exact ⟨.wrong rfl rfl rfl rfl, fun h => absurd rfl h⟩
      · have h3n : ¬ c.toNat = 34 := by omega
        rw [if_neg h3, if_neg h3n]
        by_cases h4 : R.signI c.toNat = true
        · rw [if_pos h4, if_pos h4]
          simp only
          refine ⟨.sign rfl rfl rfl ?_ c ?_ h4, fun _ => ?_⟩
          · rw [if_neg (by decide), show i + 1 - i = 1 by omega]
          · rw [if_neg (by decide), show i + 1 - i = 1 by omega]; rfl
          · rfl
        · rw [if_neg h4, if_neg h4]
          exact ⟨.wrong rfl rfl rfl rfl, fun h => absurd rfl h⟩

/-- The tokens from a place on: the first is what the program finds there, the others what it finds behind it. -/
theorem toks_go {l : List UInt8} : ∀ (n i : Nat), l.length + 1 - i ≤ n → i ≤ l.length → ∃ t r, R.toksGo n l i = t :: r ∧ TokSim t (P.tokenFrom l i) ∧
    ((t.k = 0 ∨ t.k = 120) ∧ r = [] ∨ (t.k ≠ 0 ∧ t.k ≠ 120) ∧ ∃ m, l.length + 1 - (t.at_ + (P.tokenFrom l i).raw.length) ≤ m ∧ t.at_ + (P.tokenFrom l i).raw.length ≤ l.length ∧ r = R.toksGo m l (t.at_ + (P.tokenFrom l i).raw.length)) := by
  intro n
  induction n with
  | zero => intro i h1 h2; omega
  | succ n ih =>
    intro i h1 h2
    rw [R.toksGo]
    by_cases hi : i < l.length
    · rw [if_pos hi]
      by_cases hb : R.at0 l i = 32 ∨ R.at0 l i = 10
      · rw [if_pos hb, P.span_blank hi hb]
        exact ih (i + 1) (by omega) (by omega)
      · rw [if_neg hb]
        obtain ⟨h3, h4⟩ := tok_here hi hb
        have hk : (R.tok l i).k = (R.tend l i).2 := rfl
        have ha : (R.tok l i).at_ = i := rfl
        by_cases h120 : (R.tend l i).2 = 120
        · rw [if_pos h120]
          exact ⟨_, _, rfl, h3, Or.inl ⟨Or.inr (by rw [hk, h120]), rfl⟩⟩
        · rw [if_neg h120]
          have h5 := h4 h120
          have h6 : (P.tokenFrom l i).raw.length ≤ l.length - i := by
            unfold P.tokenFrom; rw [P.place_here hi hb]; simp only [List.length_take, List.length_drop]; omega
          have h0 : (R.tok l i).k ≠ 0 := by
            intro e; rw [hk] at e; clear h3 h4 h5 h120 h1 ih
            unfold R.tend at e
            repeat' (split at e)
            all_goals simp at e
          have hr : 1 ≤ (P.tokenFrom l i).raw.length := by
            cases h3 with
            | fin h k => exact absurd k h0
            | word h k j r c cs e => rw [r, e]; simp
            | num h k j r c cs e => rw [r, e]; simp
            | str h k j r => rw [r]; simp
            | sign h k j r c e => rw [r, e]; simp
            | wrong h k => exact absurd k h120
          refine ⟨_, _, rfl, h3, Or.inr ⟨⟨h0, h120⟩, n, ?_, ?_, ?_⟩⟩
          · rw [ha]; omega
          · rw [ha]; omega
          · rw [ha, h5]
    · rw [if_neg hi]
      have e : i = l.length := by omega
      subst e
      refine ⟨_, _, rfl, .fin ?_ rfl ?_ ?_, Or.inl ⟨Or.inl rfl, rfl⟩⟩ <;> simp [P.tokenFrom, P.placeFrom, R.span, P.measure]

end Go.Proofs.YtfocdefchbnkpaaGreatDoor
