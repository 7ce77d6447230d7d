/- What a text without a fault says: few hosts and rules, names and numbers that differ, short strings. -/
import Derived.Test.YtfocdefchbnkpaaGreatDoorRefR
import Derived.Test.YtfocdefchbnkpaaGreatDoorRefN
namespace Go.Proofs.YtfocdefchbnkpaaGreatDoor
open Go.RowKit

def Fine (st : R.St) : Prop := st.bad < 0 ∧ st.E = 0
theorem fine_over {t : R.Tok} {st : R.St} {ok : Bool} (h : Fine (R.overS t st ok)) : Fine st ∧ ok = true := by
  unfold R.overS at h
  split at h
  · exact absurd h.1 (by omega)
  · split at h
    · rename_i ho; exact ⟨h, ho⟩
    · have := h.1; simp only at this; omega
theorem fine_not {st : R.St} {ok : Bool} {e a : Int} (he : e ≠ 0) (h : Fine (R.notS st ok e a)) : Fine st ∧ ok = true := by
  unfold R.notS at h
  split at h
  · exact absurd h.2 he
  · rename_i hn
    refine ⟨h, ?_⟩
    cases ok with
    | true => rfl
    | false => exact absurd ⟨rfl, h.2, h.1⟩ hn
theorem fine_need {ts : List R.Tok} {st : R.St} {s : List UInt8} (h : Fine (R.needS ts st s)) : Fine st := (fine_over h).1
theorem fine_kind {ts : List R.Tok} {st : R.St} {k : Int} (h : Fine (R.kindS ts st k)) : Fine st ∧ (R.cur ts st).k = k := by
  obtain ⟨h1, h2⟩ := fine_over h
  exact ⟨h1, by simpa using h2⟩
theorem fine_among {s : List UInt8} {p : Int} : ∀ (l : List (List UInt8)) {st : R.St}, Fine (R.among l s p st) → Fine st ∧ s ∉ l := by
  intro l
  induction l with
  | nil => intro st h; exact ⟨h, by simp⟩
  | cons a l ih =>
    intro st h
    obtain ⟨h1, h2⟩ := ih (st := R.notS st (decide (a ≠ s)) 5 p) h
    obtain ⟨h3, h4⟩ := fine_not (by decide) h1
    refine ⟨h3, fun hm => ?_⟩
    rcases List.mem_cons.1 hm with rfl | hm
    · simp at h4
    · exact h2 hm
theorem fine_amongN {s : Int} {p : Int} : ∀ (l : List Int) {st : R.St}, Fine (R.amongN l s p st) → Fine st ∧ s ∉ l := by
  intro l
  induction l with
  | nil => intro st h; exact ⟨h, by simp⟩
  | cons a l ih =>
    intro st h
    obtain ⟨h1, h2⟩ := ih (st := R.notS st (!decide (a = s)) 5 p) h
    obtain ⟨h3, h4⟩ := fine_not (by decide) h1
    refine ⟨h3, fun hm => ?_⟩
    rcases List.mem_cons.1 hm with rfl | hm
    · simp at h4
    · exact h2 hm
theorem cur_len {ts : List R.Tok} (hok : R.Ok ts) (st : R.St) : (R.cur ts st).s.length ≤ 3000 := by
  unfold R.cur
  rw [List.getD_eq_getElem?_getD]
  cases h : ts[st.K]? with
  | none => simp
  | some t => exact hok.strs _ _ h
theorem cur_num {ts : List R.Tok} (hok : R.Ok ts) (st : R.St) (hk : (R.cur ts st).k = 49) : 0 ≤ R.num (R.cur ts st).s ∧ R.num (R.cur ts st).s ≤ 99999 := by
  unfold R.cur at hk ⊢
  rw [List.getD_eq_getElem?_getD] at hk ⊢
  cases h : ts[st.K]? with
  | none => rw [h] at hk; simp at hk
  | some t => rw [h] at hk; exact hok.nums _ _ h hk
theorem fine_path {ts : List R.Tok} {st : R.St} (h : Fine (R.pathS ts st).2) : Fine st ∧ R.path (R.pathS ts st).1 = true := by
  obtain ⟨h1, h2⟩ := fine_not (by decide) h
  exact ⟨(fine_kind h1).1, h2⟩
theorem fine_value {ts : List R.Tok} {st : R.St} (h : Fine (R.valueS ts st).2) : Fine st := fine_need (fine_kind (fine_not (by decide) h).1).1
theorem fine_header {ts : List R.Tok} {st : R.St} {l : List (List UInt8)} (h : Fine (R.headerS ts st l).2) : Fine st :=
  (fine_kind (fine_not (by decide) (fine_among l h).1).1).1
theorem path_some {l : List UInt8} (h : R.path l = true) : l ≠ [] := by
  intro e; subst e; simp [R.path] at h

def FewM (l : List R.Mt) : Prop := l.length ≤ 3 ∧ ∀ m ∈ l, m.name.length ≤ 3000 ∧ m.val.length ≤ 3000
theorem fine_mtLoop {ts : List R.Tok} (hok : R.Ok ts) (n : Nat) : ∀ (st : R.St) (acc : List R.Mt), Fine (R.mtLoop ts n st acc).2 → Fine st ∧ (FewM acc → FewM (R.mtLoop ts n st acc).1) := by
  induction n with
  | zero => intro st acc h; exact ⟨h, id⟩
  | succ n ih =>
    intro st acc h
    unfold R.mtLoop at h ⊢
    split at h
    · rename_i hb
      rw [if_pos hb]
      obtain ⟨h1, h2⟩ := ih _ _ h
      have h3 := fine_need h1
      have h4 : Fine (R.mtA ts st acc.length).2 := by
        unfold R.mtB at h3; split at h3
        · exact fine_value h3
        · exact h3
      obtain ⟨h5, h6⟩ := fine_not (by decide) (fine_header h4)
      refine ⟨fine_need h5, fun ha => h2 ⟨?_, ?_⟩⟩
      · have : acc.length < 3 := by have := of_decide_eq_true h6; omega
        unfold R.mtRound; simp; omega
      · intro m hm
        unfold R.mtRound at hm
        rcases List.mem_append.1 hm with hm | hm
        · exact ha.2 m hm
        · simp at hm; subst hm
          refine ⟨by show (R.lower _).length ≤ 3000; rw [lower_len]; exact cur_len hok _, ?_⟩
          show (R.mtB ts (R.mtA ts st acc.length).2).1.length ≤ 3000
          unfold R.mtB; split
          · exact cur_len hok _
          · simp
    · rename_i hb; rw [if_neg hb]; exact ⟨h, id⟩
def FewT (i : Nat) (l : List (List UInt8 × Int)) : Prop := i ≤ 4 ∧ l.length ≤ i ∧ ∀ t ∈ l, t.1.length ≤ 3000 ∧ 0 ≤ t.2 ∧ t.2 ≤ 99999
theorem fine_tgLoop {ts : List R.Tok} (hok : R.Ok ts) (n : Nat) : ∀ (st : R.St) (i : Nat) (acc : List (List UInt8 × Int)), Fine (R.tgLoop ts n st i acc).2 → Fine st ∧ (FewT i acc → ∃ j, FewT j (R.tgLoop ts n st i acc).1) := by
  induction n with
  | zero => intro st i acc h; exact ⟨h, fun h => ⟨i, h⟩⟩
  | succ n ih =>
    intro st i acc h
    unfold R.tgLoop at h ⊢
    split at h
    · rename_i hb
      rw [if_pos hb]
      have hR : ∀ (hf : Fine (R.tgRound ts st i acc).1), Fine st ∧ (FewT i acc → FewT (i + 1) (R.tgRound ts st i acc).2) := by
        intro hf
        obtain ⟨g1, g2⟩ := fine_not (by decide) hf
        obtain ⟨g3, g4⟩ := fine_not (by decide) g1
        obtain ⟨g5, g6⟩ := fine_not (by decide) g3
        obtain ⟨g7, g8⟩ := fine_kind g5
        obtain ⟨g9, _⟩ := fine_kind g7
        have hi : i < 4 := by have := of_decide_eq_true g6; omega
        refine ⟨g9, fun ha => ⟨by omega, ?_, ?_⟩⟩
        · have := ha.2.1
          unfold R.tgRound; simp only; split
          · simp; omega
          · omega
        · intro t ht
          unfold R.tgRound at ht; simp only at ht
          split at ht
          · rcases List.mem_append.1 ht with ht | ht
            · exact ha.2.2 t ht
            · simp at ht; subst ht
              exact ⟨cur_len hok _, cur_num hok _ g8⟩
          · exact ha.2.2 t ht
      split at h
      · rename_i hc
        rw [if_pos hc]
        obtain ⟨h1, h2⟩ := ih _ _ _ h
        obtain ⟨h3, h4⟩ := hR (fine_need h1)
        exact ⟨h3, fun ha => h2 (h4 ha)⟩
      · rename_i hc
        rw [if_neg hc]
        obtain ⟨h3, h4⟩ := hR h
        exact ⟨h3, fun ha => ⟨_, h4 ha⟩⟩
    · rename_i hb; rw [if_neg hb]; exact ⟨h, fun h => ⟨i, h⟩⟩
def FewS (l : List (List UInt8 × List UInt8)) : Prop := l.length ≤ 3 ∧ ∀ m ∈ l, m.1.length ≤ 3000 ∧ m.2.length ≤ 3000
theorem fine_stLoop {ts : List R.Tok} (hok : R.Ok ts) (n : Nat) : ∀ (st : R.St) (acc : List (List UInt8 × List UInt8)), Fine (R.stLoop ts n st acc).2 → Fine st ∧ (FewS acc → FewS (R.stLoop ts n st acc).1) := by
  induction n with
  | zero => intro st acc h; exact ⟨h, id⟩
  | succ n ih =>
    intro st acc h
    unfold R.stLoop at h ⊢
    split at h
    · rename_i hb
      rw [if_pos hb]
      obtain ⟨h1, h2⟩ := ih _ _ h
      obtain ⟨h5, h6⟩ := fine_not (by decide) (fine_header (fine_value (fine_need h1)))
      refine ⟨fine_need h5, fun ha => h2 ⟨?_, ?_⟩⟩
      · have : acc.length < 3 := by have := of_decide_eq_true h6; omega
        unfold R.stRound; simp; omega
      · intro m hm
        unfold R.stRound at hm
        rcases List.mem_append.1 hm with hm | hm
        · exact ha.2 m hm
        · simp at hm; subst hm
          exact ⟨by show (R.lower _).length ≤ 3000; rw [lower_len]; exact cur_len hok _, cur_len hok _⟩
    · rename_i hb; rw [if_neg hb]; exact ⟨h, id⟩
def FewD (l : List (List UInt8)) : Prop := l.length ≤ 3 ∧ ∀ m ∈ l, m.length ≤ 3000
theorem fine_dpLoop {ts : List R.Tok} (hok : R.Ok ts) (sets : List (List UInt8)) (n : Nat) : ∀ (st : R.St) (acc : List (List UInt8)), Fine (R.dpLoop ts sets n st acc).2 → Fine st ∧ (FewD acc → FewD (R.dpLoop ts sets n st acc).1) := by
  induction n with
  | zero => intro st acc h; exact ⟨h, id⟩
  | succ n ih =>
    intro st acc h
    unfold R.dpLoop at h ⊢
    split at h
    · rename_i hb
      rw [if_pos hb]
      obtain ⟨h1, h2⟩ := ih _ _ h
      obtain ⟨h5, h6⟩ := fine_not (by decide) (fine_header (fine_need h1))
      refine ⟨fine_need h5, fun ha => h2 ⟨?_, ?_⟩⟩
      · have : acc.length < 3 := by have := of_decide_eq_true h6; omega
        unfold R.dpRound; simp; omega
      · intro m hm
        unfold R.dpRound at hm
        rcases List.mem_append.1 hm with hm | hm
        · exact ha.2 m hm
        · simp at hm; subst hm
          show (R.lower _).length ≤ 3000; rw [lower_len]; exact cur_len hok _
    · rename_i hb; rw [if_neg hb]; exact ⟨h, id⟩

def GoodRl (r : R.Rl) : Prop := R.Small r ∧ (r.change = true → r.to ≠ [])
theorem fine_rule {ts : List R.Tok} (hok : R.Ok ts) (st : R.St) (i : Nat) (others : List Int) (h : Fine (R.ruleS ts st i others).2) : Fine st ∧ i < 6 ∧ (R.ruleS ts st i others).1.number ∉ others ∧ GoodRl (R.ruleS ts st i others).1 := by
  unfold R.ruleS R.ruleT R.ruleE at h ⊢
  simp only at h ⊢
  generalize hA : R.rlA ts st i others = A at *
  generalize hB : R.rlB ts A.2 = B at *
  generalize hM : R.matchesS ts B.2 = M at *
  generalize hT : R.targetsS ts M.2 = T at *
  generalize hC : R.rlC ts T.2 = C at *
  have h1 := fine_need h
  unfold R.editsS at h1
  simp only at h1
  obtain ⟨h2, d2⟩ := fine_dpLoop hok _ _ _ _ h1
  obtain ⟨h3, d3⟩ := fine_stLoop hok _ _ _ h2
  have hc : Fine T.2 ∧ C.1.length ≤ 3000 ∧ (R.isB T.2 (R.cur ts T.2) R.wReplace = true → C.1 ≠ []) := by
    rw [← hC] at h3 ⊢
    unfold R.rlC at h3 ⊢
    split at h3
    · rename_i hb
      rw [if_pos hb]
      obtain ⟨g1, g2⟩ := fine_path (fine_need h3)
      exact ⟨fine_need g1, cur_len hok _, fun _ => path_some g2⟩
    · rename_i hb
      rw [if_neg hb]
      exact ⟨h3, by simp, fun e => absurd e hb⟩
  obtain ⟨hT1, hc2, hc3⟩ := hc
  have ht : Fine M.2 ∧ ∃ j, FewT j T.1 := by
    rw [← hT] at hT1 ⊢
    unfold R.targetsS at hT1 ⊢
    obtain ⟨g1, g2⟩ := fine_tgLoop hok _ _ _ _ (fine_need hT1)
    exact ⟨fine_need (fine_not (by decide) g1).1, g2 ⟨by decide, by simp, fun t ht => by simp at ht⟩⟩
  obtain ⟨hM1, j, hj⟩ := ht
  have hm : Fine B.2 ∧ FewM M.1 := by
    rw [← hM] at hM1 ⊢
    unfold R.matchesS at hM1 ⊢
    obtain ⟨g1, g2⟩ := fine_mtLoop hok _ _ _ hM1
    exact ⟨g1, g2 ⟨by simp, fun t ht => by simp at ht⟩⟩
  obtain ⟨hB1, hm2⟩ := hm
  have hb : Fine A.2 ∧ B.1.length ≤ 3000 := by
    rw [← hB] at hB1 ⊢
    unfold R.rlB at hB1 ⊢
    exact ⟨fine_need (fine_need (fine_path (fine_need hB1)).1), cur_len hok _⟩
  obtain ⟨hA1, hb2⟩ := hb
  have ha : Fine st ∧ i < 6 ∧ A.1 ∉ others ∧ 0 ≤ A.1 ∧ A.1 ≤ 99999 := by
    rw [← hA] at hA1 ⊢
    unfold R.rlA R.rlA2 at hA1 ⊢
    obtain ⟨g1, g2⟩ := fine_amongN _ hA1
    obtain ⟨g3, g4⟩ := fine_not (by decide) g1
    obtain ⟨g5, g6⟩ := fine_kind g3
    obtain ⟨g7, g8⟩ := fine_not (by decide) g5
    exact ⟨fine_need g7, by have := of_decide_eq_true g8; omega, g2, cur_num hok _ g6⟩
  obtain ⟨hS1, ha2, ha3, ha4⟩ := ha
  have e3 := d3 ⟨by simp, fun t ht => by simp at ht⟩
  have e2 := d2 ⟨by simp, fun t ht => by simp at ht⟩
  refine ⟨hS1, ha2, ha3, ⟨ha4, hb2, ⟨by have := hm2.1; simp only; omega, hm2.2⟩, ⟨by have := hj.1; have := hj.2.1; simp only; omega, hj.2.2⟩, hc2, ⟨by have := e3.1; unfold R.editsS; simp only; omega, e3.2⟩, ⟨by have := e2.1; unfold R.editsS; simp only; omega, e2.2⟩⟩, hc3⟩
def GoodRs (l : List R.Rl) : Prop := l.length ≤ 6 ∧ (l.map R.Rl.number).Pairwise (· ≠ ·) ∧ ∀ r ∈ l, GoodRl r
theorem fine_rlLoop {ts : List R.Tok} (hok : R.Ok ts) (n : Nat) : ∀ (st : R.St) (acc : List R.Rl), Fine (R.rlLoop ts n st acc).2 → Fine st ∧ (GoodRs acc → GoodRs (R.rlLoop ts n st acc).1) := by
  induction n with
  | zero => intro st acc h; exact ⟨h, id⟩
  | succ n ih =>
    intro st acc h
    unfold R.rlLoop at h ⊢
    split at h
    · rename_i hb
      rw [if_pos hb]
      obtain ⟨h1, h2⟩ := ih _ _ h
      obtain ⟨h3, h4, h5, h6⟩ := fine_rule hok _ _ _ h1
      refine ⟨h3, fun ha => h2 ⟨by rw [List.length_append]; simp; omega, ?_, ?_⟩⟩
      · rw [List.map_append, List.pairwise_append]
        refine ⟨ha.2.1, by simp, fun a hm b hb2 => ?_⟩
        simp at hb2; subst hb2
        exact fun e => h5 (e ▸ hm)
      · intro r hr
        rcases List.mem_append.1 hr with hr | hr
        · exact ha.2.2 r hr
        · simp at hr; subst hr; exact h6
    · rename_i hb; rw [if_neg hb]; exact ⟨h, id⟩
def GoodHst (h : R.Hst) : Prop := h.name.length ≤ 3000 ∧ GoodRs h.rules
theorem fine_host {ts : List R.Tok} (hok : R.Ok ts) (st : R.St) (names : List (List UInt8)) (h : Fine (R.hostS ts st names).2) : Fine st ∧ names.length < 4 ∧ (R.hostS ts st names).1.name ∉ names ∧ GoodHst (R.hostS ts st names).1 := by
  unfold R.hostS R.hsB at h ⊢
  simp only at h ⊢
  obtain ⟨h1, h2⟩ := fine_rlLoop hok _ _ _ (fine_need h)
  have h3 := fine_need h1
  have h4 := h2 ⟨by simp, .nil, fun r hr => by simp at hr⟩
  unfold R.hsA R.hsA2 at h3
  obtain ⟨g1, g2⟩ := fine_among _ h3
  obtain ⟨g5, _⟩ := fine_kind (fine_not (by decide) g1).1
  obtain ⟨g7, g8⟩ := fine_not (by decide) g5
  refine ⟨fine_need g7, by have := of_decide_eq_true g8; omega, g2, ?_, h4⟩
  show (R.lower _).length ≤ 3000
  rw [lower_len]; exact cur_len hok _
def GoodHs (l : List R.Hst) : Prop := l.length ≤ 4 ∧ (l.map R.Hst.name).Pairwise (· ≠ ·) ∧ ∀ r ∈ l, GoodHst r
theorem fine_hsLoop {ts : List R.Tok} (hok : R.Ok ts) (n : Nat) : ∀ (st : R.St) (acc : List R.Hst), Fine (R.hsLoop ts n st acc).2 → Fine st ∧ (GoodHs acc → GoodHs (R.hsLoop ts n st acc).1) := by
  induction n with
  | zero => intro st acc h; exact ⟨h, id⟩
  | succ n ih =>
    intro st acc h
    unfold R.hsLoop at h ⊢
    split at h
    · rename_i hb
      rw [if_pos hb]
      obtain ⟨h1, h2⟩ := ih _ _ h
      obtain ⟨h3, h4, h5, h6⟩ := fine_host hok _ _ h1
      refine ⟨h3, fun ha => h2 ⟨by rw [List.length_append]; simp at h4 ⊢; omega, ?_, ?_⟩⟩
      · rw [List.map_append, List.pairwise_append]
        refine ⟨ha.2.1, by simp, fun a hm b hb2 => ?_⟩
        simp at hb2; subst hb2
        exact fun e => h5 (e ▸ hm)
      · intro r hr
        rcases List.mem_append.1 hr with hr | hr
        · exact ha.2.2 r hr
        · simp at hr; subst hr; exact h6
    · rename_i hb; rw [if_neg hb]; exact ⟨h, id⟩
theorem read_good (l : List UInt8) (hl : l.length ≤ 3000) (h : Fine (R.readS l).2) : GoodHs (R.readS l).1 := by
  obtain ⟨hok, _⟩ := R.toks_ok l hl
  exact (fine_hsLoop hok _ _ _ h).2 ⟨by simp, .nil, fun r hr => by simp at hr⟩
end Go.Proofs.YtfocdefchbnkpaaGreatDoor
