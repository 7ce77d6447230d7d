/- The two readers agree, part EqB. -/
import Derived.Test.YtfocdefchbnkpaaGreatDoorEqA
import Derived.Test.YtfocdefchbnkpaaGreatDoorRefP
import Derived.Test.YtfocdefchbnkpaaGreatDoorRefN
import Derived.Test.YtfocdefchbnkpaaGreatDoorRefM
import Derived.Test.YtfocdefchbnkpaaGreatDoorRefL
import Derived.Test.YtfocdefchbnkpaaGreatDoorProN
namespace Go.Proofs.YtfocdefchbnkpaaGreatDoor
open Go.RowKit

/-- Both readers stand at the same token, with the same fault. -/
structure Sim (l : List UInt8) (ts : List R.Tok) (st : R.St) (p : P.St) : Prop where
  nb : st.bad < 0
  nk : p.broken = false
  link : ∃ m q, l.length + 1 - q ≤ m ∧ q ≤ l.length ∧ ts.drop st.K = R.toksGo m l q ∧ p.tok = P.tokenFrom l q
  err : p.err = st.E
  fat : st.E ≠ 0 → p.fat = st.at_
  past : st.E ≠ 0 → st.at_ < p.tok.at_
/-- Both have met the same wrong token. -/
structure Dead (st : R.St) (p : P.St) : Prop where
  bad : 0 ≤ st.bad
  broken : p.broken = true
  place : (p.tok.at_ : Int) = st.bad
def Res (l : List UInt8) (ts : List R.Tok) (Q : Prop) (st : R.St) (p : P.St) : Prop := (Sim l ts st p ∧ Q) ∨ Dead st p

theorem Res.bind {l : List UInt8} {ts : List R.Tok} {Q Q' : Prop} {st st' : R.St} {p p' : P.St} (h : Res l ts Q st p) (hd : 0 ≤ st.bad → st' = st) (hp : p.broken = true → p'.broken = true ∧ p'.tok = p.tok)
    (hs : Sim l ts st p → Q → Res l ts Q' st' p') : Res l ts Q' st' p' := by
  rcases h with ⟨h, q⟩ | h
  · exact hs h q
  · right
    obtain ⟨h1, h2⟩ := hp h.broken
    rw [hd h.bad]
    exact ⟨h.bad, h1, by rw [h2]; exact h.place⟩
theorem Res.mono {l : List UInt8} {ts : List R.Tok} {Q Q' : Prop} {st : R.St} {p : P.St} (h : Res l ts Q st p) (hq : Q → Q') : Res l ts Q' st p := by
  rcases h with ⟨h, q⟩ | h
  · exact Or.inl ⟨h, hq q⟩
  · exact Or.inr h

theorem R.overS_E (t : R.Tok) (st : R.St) (b : Bool) : (R.overS t st b).E = st.E := by unfold R.overS; split; rfl; split <;> rfl
theorem R.overS_at (t : R.Tok) (st : R.St) (b : Bool) : (R.overS t st b).at_ = st.at_ := by unfold R.overS; split; rfl; split <;> rfl

theorem Sim.tok {l : List UInt8} {ts : List R.Tok} {st : R.St} {p : P.St} (h : Sim l ts st p) : TokSim (R.cur ts st) p.tok ∧ st.K < ts.length := by
  obtain ⟨m, q, h1, h2, h3, h4⟩ := h.link
  obtain ⟨t, r, h5, h6, _⟩ := toks_go m q h1 h2
  rw [h5] at h3
  have hK : st.K < ts.length := by
    apply Classical.byContradiction; intro hn
    rw [List.drop_of_length_le (by omega)] at h3; cases h3
  have hc : R.cur ts st = t := by
    unfold R.cur
    rw [List.getD_eq_getElem?_getD, List.getElem?_eq_getElem hK]
    rw [List.drop_eq_getElem_cons hK] at h3
    exact (List.cons.inj h3).1
  rw [hc, h4]; exact ⟨h6, hK⟩

theorem pass_sim {l : List UInt8} {ts : List R.Tok} {st : R.St} {p : P.St} (h : Sim l ts st p) (b : Bool) (hk : b = true → (R.cur ts st).k ≠ 0 ∧ (R.cur ts st).k ≠ 120) :
    (b = true ∧ Sim l ts (R.overS (R.cur ts st) st b) (P.passS l p b) ∧ p.tok.at_ < (P.passS l p b).tok.at_ ∧ p.tok.at_ + p.tok.raw.length ≤ (P.passS l p b).tok.at_) ∨ (b = false ∧ Dead (R.overS (R.cur ts st) st b) (P.passS l p b)) := by
  have ht := h.tok
  obtain ⟨m, q, h1, h2, h3, h4⟩ := h.link
  obtain ⟨t, r, h5, h6, h7⟩ := toks_go m q h1 h2
  have hc : R.cur ts st = t := by
    unfold R.cur
    rw [List.getD_eq_getElem?_getD, List.getElem?_eq_getElem ht.2]
    rw [h5, List.drop_eq_getElem_cons ht.2] at h3
    exact (List.cons.inj h3).1
  unfold R.overS P.passS
  rw [if_neg (by have := h.nb; omega)]
  cases b
  · right
    rw [if_neg (by simp), if_neg (by simp)]
    have := h6.place
    exact ⟨rfl, ⟨by rw [hc]; exact Int.natCast_nonneg _, rfl, by rw [hc, h4, this]⟩⟩
  · left
    rw [if_pos rfl, if_pos ⟨rfl, h.nk⟩]
    have hk' := hk rfl
    rw [hc] at hk'
    rcases h7 with ⟨h7, _⟩ | ⟨_, m', h8, h9, h10⟩
    · exact absurd h7 (by intro h; rcases h with h | h; exact hk'.1 h; exact hk'.2 h)
    have hpl : p.tok.at_ + p.tok.raw.length = t.at_ + (P.tokenFrom l q).raw.length := by rw [h4, h6.place]
    have hraw : 1 ≤ (P.tokenFrom l q).raw.length := by
      cases h6 with
      | fin h k => exact absurd k hk'.1
      | word h k j r c cs e => rw [r, e]; simp
      | num h k j r c cs e => rw [r, e]; simp
      | str h k j r => rw [r]; simp
      | sign h k j r c e => rw [r, e]; simp
      | wrong h k => exact absurd k hk'.2
    have hge : p.tok.at_ + p.tok.raw.length ≤ (P.tokenFrom l (p.tok.at_ + p.tok.raw.length)).at_ := by
      unfold P.tokenFrom P.placeFrom; simp only; omega
    have hlt : p.tok.at_ < (P.tokenFrom l (p.tok.at_ + p.tok.raw.length)).at_ := by
      have : 1 ≤ p.tok.raw.length := by rw [h4]; exact hraw
      omega
    refine ⟨rfl, ⟨h.nb, h.nk, ⟨m', p.tok.at_ + p.tok.raw.length, by rw [hpl]; exact h8, by rw [hpl]; exact h9, ?_, rfl⟩, h.err, h.fat, ?_⟩, hlt, hge⟩
    · rw [hpl, ← h10]
      rw [h5, List.drop_eq_getElem_cons ht.2] at h3
      exact (List.cons.inj h3).2
    · intro hE
      have h11 := h.past hE
      have : (P.lookS l p (p.tok.at_ + p.tok.raw.length)).tok.at_ = (P.tokenFrom l (p.tok.at_ + p.tok.raw.length)).at_ := rfl
      rw [this]
      show st.at_ < _
      omega

def headOk (r : List UInt8) : Prop := ∃ c cs, r = c :: cs ∧ R.digitI c.toNat = false ∧ c ≠ 34

theorem sees_eq {l : List UInt8} {ts : List R.Tok} {st : R.St} {p : P.St} (h : Sim l ts st p) {r : List UInt8} (hr : headOk r) : R.isB st (R.cur ts st) r = decide (p.tok.raw = r) ∧ P.sees p r = R.isB st (R.cur ts st) r ∧ (R.isB st (R.cur ts st) r = true → (R.cur ts st).k ≠ 0 ∧ (R.cur ts st).k ≠ 120) := by
  have e : R.isB st (R.cur ts st) r = decide (p.tok.raw = r) := by
    obtain ⟨c, cs, rfl, hd, h34⟩ := hr
    unfold R.isB
    rw [decide_eq_true h.nb]
    cases h.tok.1 with
    | fin _ k j r => rw [k, r]; simp
    | word _ k j r => rw [k, r]; simp
    | num _ k j r c' cs' e hc =>
      rw [k, r, e]
      have : ¬ (c' :: cs' = c :: cs) := by intro h; rw [(List.cons.inj h).1, hd] at hc; cases hc
      rw [decide_eq_false this]; rfl
    | str _ k j r =>
      rw [k, r]
      have : ¬ (34 :: (R.cur ts st).s ++ [34] = c :: cs) := by intro h; exact h34 (List.cons.inj h).1.symm
      rw [decide_eq_false this]; rfl
    | sign _ k j r => rw [k, r]; simp
    | wrong _ k j r => rw [k, r]; simp
  refine ⟨e, ?_, ?_⟩
  · rw [e]; unfold P.sees; rw [h.nk]; simp
  · intro hi
    unfold R.isB at hi
    simp only [Bool.and_eq_true, Bool.or_eq_true, beq_iff_eq] at hi
    omega

theorem take_res {l : List UInt8} {ts : List R.Tok} {st : R.St} {p : P.St} (h : Sim l ts st p) {r : List UInt8} (hr : headOk r) :
    Res l ts (p.tok.at_ < (P.takeS l p r).tok.at_ ∧ R.isB st (R.cur ts st) r = true) (R.needS ts st r) (P.takeS l p r) := by
  obtain ⟨h1, h2, h3⟩ := sees_eq h hr
  unfold R.needS P.takeS
  rw [← h1]
  rcases pass_sim h (R.isB st (R.cur ts st) r) h3 with ⟨e, s, lt, _⟩ | ⟨_, d⟩
  · exact Or.inl ⟨s, lt, e⟩
  · exact Or.inr d

/-- A broken reader stands still. -/
def Still (p p' : P.St) : Prop := p.broken = true → p'.broken = true ∧ p'.tok = p.tok
theorem Still.trans {a b c : P.St} (h : Still a b) (k : Still b c) : Still a c := fun x => ⟨(k (h x).1).1, (k (h x).1).2.trans (h x).2⟩
theorem still_refl (p : P.St) : Still p p := fun h => ⟨h, rfl⟩
theorem still_pass (l : List UInt8) (p : P.St) (b : Bool) : Still p (P.passS l p b) := fun h => by unfold P.passS; rw [if_neg (by rw [h]; simp)]; exact ⟨rfl, rfl⟩
theorem still_take (l : List UInt8) (p : P.St) (r : List UInt8) : Still p (P.takeS l p r) := still_pass _ _ _
theorem still_str (l : List UInt8) (p : P.St) : Still p (P.strS l p).2 := still_pass _ _ _
theorem still_num (l : List UInt8) (p : P.St) : Still p (P.numS l p).2 := still_pass _ _ _
theorem note_keeps (p : P.St) (e a : Int) : (P.noteS p e a).tok = p.tok ∧ (P.noteS p e a).broken = p.broken := by unfold P.noteS; split <;> exact ⟨rfl, rfl⟩
theorem noteIf_keeps (p : P.St) (b : Bool) (e a : Int) : (P.noteIf p b e a).tok = p.tok ∧ (P.noteIf p b e a).broken = p.broken := by
  unfold P.noteIf; split
  · exact note_keeps _ _ _
  · exact ⟨rfl, rfl⟩
theorem noteIf_tok (p : P.St) (b : Bool) (e a : Int) : (P.noteIf p b e a).tok = p.tok := (noteIf_keeps p b e a).1
theorem still_note (p : P.St) (b : Bool) (e a : Int) : Still p (P.noteIf p b e a) := fun h => ⟨by rw [(noteIf_keeps p b e a).2]; exact h, (noteIf_keeps p b e a).1⟩
theorem still_one (p : P.St) (a b : Int) : Still p (P.oneMore p a b) := still_note _ _ _ _
theorem sees_broken {p : P.St} {r : List UInt8} (h : p.broken = true) : P.sees p r = false := by unfold P.sees; rw [h]; rfl

/-- A note ahead of a step is one behind it. -/
theorem pass_note (l : List UInt8) (p : P.St) (b c : Bool) (e a : Int) : P.passS l (P.noteIf p c e a) b = P.noteIf (P.passS l p b) c e a := by
  unfold P.passS
  rw [(noteIf_keeps p c e a).1, (noteIf_keeps p c e a).2]
  unfold P.noteIf
  cases c
  · rfl
  · simp only [if_true]
    by_cases h : b = true ∧ p.broken = false
    · rw [if_pos h, if_pos h]
      unfold P.noteS P.lookS
      simp only
      split <;> rfl
    · rw [if_neg h, if_neg h]
      unfold P.noteS
      simp only
      split <;> rfl
theorem take_note (l : List UInt8) (p : P.St) (r : List UInt8) (c : Bool) (e a : Int) : P.takeS l (P.noteIf p c e a) r = P.noteIf (P.takeS l p r) c e a := by
  unfold P.takeS; rw [(noteIf_keeps p c e a).1, pass_note]
theorem str_note (l : List UInt8) (p : P.St) (c : Bool) (e a : Int) : P.strS l (P.noteIf p c e a) = ((P.strS l p).1, P.noteIf (P.strS l p).2 c e a) := by
  unfold P.strS; rw [(noteIf_keeps p c e a).1, pass_note, (noteIf_keeps _ c e a).2]

/-- What is noted stands ahead of a place, or there with no greater error. -/
def Noted (st : R.St) (a e : Int) : Prop := st.E ≠ 0 → st.at_ < a ∨ (st.at_ = a ∧ st.E ≤ e)
theorem note_sim {l : List UInt8} {ts : List R.Tok} {st : R.St} {p : P.St} (h : Sim l ts st p) (ok : Bool) (e a : Int) (hn : Noted st a e) (ha : a < p.tok.at_) :
    Sim l ts (R.notS st ok e a) (P.noteIf p (!ok) e a) ∧ ∀ e', e ≤ e' → Noted (R.notS st ok e a) a e' := by
  unfold R.notS P.noteIf
  cases ok
  · simp only [Bool.not_false, if_true]
    unfold P.noteS
    rw [h.err]
    by_cases hE : st.E = 0
    · rw [if_pos ⟨trivial, hE, h.nb⟩, if_pos (Or.inl hE)]
      exact ⟨⟨h.nb, h.nk, h.link, rfl, fun _ => rfl, fun _ => ha⟩, fun e' he' _ => Or.inr ⟨rfl, he'⟩⟩
    · rw [if_neg (fun c => hE c.2.1), h.fat hE, if_neg (by rcases hn hE with c | c <;> (intro d; rcases d with d | d | d <;> omega))]
      exact ⟨h, fun e' he' hE' => by rcases hn hE' with c | c; exact Or.inl c; exact Or.inr ⟨c.1, by omega⟩⟩
  · simp only [Bool.not_true, if_false, Bool.false_eq_true]
    rw [if_neg (by simp)]
    exact ⟨h, fun e' he' hE' => by rcases hn hE' with c | c; exact Or.inl c; exact Or.inr ⟨c.1, by omega⟩⟩
theorem noted_over {st : R.St} {a e : Int} (h : Noted st a e) (t : R.Tok) (b : Bool) : Noted (R.overS t st b) a e := by
  unfold Noted; rw [R.overS_E, R.overS_at]; exact h
theorem noted_past {l : List UInt8} {ts : List R.Tok} {st : R.St} {p : P.St} (h : Sim l ts st p) (e : Int) : Noted st (R.cur ts st).at_ e := by
  intro hE; left; have := h.past hE; rw [h.tok.1.place] at this; exact this

theorem str_res {l : List UInt8} {ts : List R.Tok} {st : R.St} {p : P.St} (h : Sim l ts st p) :
    Res l ts ((P.strS l p).1 = (R.cur ts st).s ∧ p.tok.at_ < (P.strS l p).2.tok.at_) (R.kindS ts st 34) (P.strS l p).2 := by
  have ht := h.tok.1
  have hb : (p.tok.k == 3) = ((R.cur ts st).k == 34) := by
    cases ht with
    | fin _ k j => rw [k, j]; rfl
    | word _ k j => rw [k, j]; rfl
    | num _ k j => rw [k, j]; rfl
    | str _ k j => rw [k, j]; rfl
    | sign _ k j => rw [k, j]; rfl
    | wrong _ k j => rw [k, j]; rfl
  unfold P.strS R.kindS
  rw [hb]
  rcases pass_sim h ((R.cur ts st).k == 34) (fun e => by rw [beq_iff_eq] at e; omega) with ⟨e, s, lt, _⟩ | ⟨_, d⟩
  · left
    refine ⟨s, ?_, lt⟩
    rw [if_neg (by rw [s.nk]; simp)]
    rw [beq_iff_eq] at e
    cases ht with
    | fin _ k j => omega
    | word _ k j => omega
    | num _ k j => omega
    | sign _ k j => omega
    | wrong _ k j => omega
    | str _ k j r => rw [r]; simp
  · exact Or.inr d
theorem num_res {l : List UInt8} {ts : List R.Tok} {st : R.St} {p : P.St} (h : Sim l ts st p) :
    Res l ts ((P.numS l p).1 = R.num (R.cur ts st).s ∧ p.tok.at_ < (P.numS l p).2.tok.at_ ∧ (R.cur ts st).k = 49) (R.kindS ts st 49) (P.numS l p).2 := by
  have ht := h.tok.1
  have hb : (p.tok.k == 2) = ((R.cur ts st).k == 49) := by
    cases ht with
    | fin _ k j => rw [k, j]; rfl
    | word _ k j => rw [k, j]; rfl
    | num _ k j => rw [k, j]; rfl
    | str _ k j => rw [k, j]; rfl
    | sign _ k j => rw [k, j]; rfl
    | wrong _ k j => rw [k, j]; rfl
  unfold P.numS R.kindS
  rw [hb]
  rcases pass_sim h ((R.cur ts st).k == 49) (fun e => by rw [beq_iff_eq] at e; omega) with ⟨e, s, lt, _⟩ | ⟨_, d⟩
  · left
    rw [beq_iff_eq] at e
    refine ⟨s, ?_, lt, e⟩
    rw [if_neg (by rw [s.nk]; simp)]
    cases ht with
    | fin _ k j => omega
    | word _ k j => omega
    | str _ k j => omega
    | sign _ k j => omega
    | wrong _ k j => omega
    | num _ k j r => rw [r]
  · exact Or.inr d


theorem dead_note {st : R.St} {p : P.St} (h : Dead st p) (b : Bool) (e a : Int) : Dead st (P.noteIf p b e a) :=
  ⟨h.bad, by rw [(noteIf_keeps p b e a).2]; exact h.broken, by rw [(noteIf_keeps p b e a).1]; exact h.place⟩

/-- A step, then a note at the token that was passed. -/
theorem Res.note {l : List UInt8} {ts : List R.Tok} {Q : Prop} {st : R.St} {p : P.St} (h : Res l ts Q st p) (ok : Bool) (e : Int) (a : Int) (hn : Sim l ts st p → Q → Noted st a e ∧ a < p.tok.at_) :
    Res l ts (Q ∧ ∀ e', e ≤ e' → Noted (R.notS st ok e a) a e') (R.notS st ok e a) (P.noteIf p (!ok) e a) := by
  rcases h with ⟨h, q⟩ | h
  · obtain ⟨h1, h2⟩ := hn h q
    obtain ⟨h3, h4⟩ := note_sim h ok e a h1 h2
    exact Or.inl ⟨h3, q, h4⟩
  · right; rw [R.notS_bad h.bad]; exact dead_note h _ _ _

theorem pathR_res {l : List UInt8} {ts : List R.Tok} {st : R.St} {p : P.St} (h : Sim l ts st p) :
    Res l ts ((P.strS l p).1 = (R.pathS ts st).1 ∧ p.tok.at_ < (P.strS l p).2.tok.at_) (R.pathS ts st).2 (P.noteIf (P.strS l p).2 (!R.path (P.strS l p).1) 4 p.tok.at_) := by
  have h1 := str_res h
  unfold R.pathS
  simp only
  rcases h1 with ⟨h1, q1, q2⟩ | d
  · rw [q1, h.tok.1.place]
    rw [h.tok.1.place] at q2
    have := Res.note (Or.inl ⟨h1, trivial⟩ : Res l ts True _ _) (R.path (R.cur ts st).s) 4 (R.cur ts st).at_ (fun _ _ => ⟨noted_over (noted_past h 4) _ _, by omega⟩)
    exact this.mono (fun _ => ⟨rfl, by omega⟩)
  · right; rw [R.notS_bad d.bad]; exact dead_note d _ _ _

theorem hd_word {c : UInt8} {cs : List UInt8} (h1 : R.digitI c.toNat = false) (h2 : c ≠ 34) : headOk (c :: cs) := ⟨c, cs, rfl, h1, h2⟩

/-- 'path' or 'replace', its string, its end. -/
theorem path_res {l : List UInt8} {ts : List R.Tok} {st : R.St} {p : P.St} (h : Sim l ts st p) (w : List UInt8) (hw : headOk w) :
    Res l ts ((P.pathS l p w).1 = (R.pathS ts (R.needS ts st w)).1 ∧ p.tok.at_ < (P.pathS l p w).2.tok.at_) (R.needS ts (R.pathS ts (R.needS ts st w)).2 [59]) (P.pathS l p w).2 := by
  have h1 := take_res h hw
  unfold P.pathS
  simp only
  refine Res.bind h1 (fun hb => by rw [R.pathS_bad hb, R.needS_bad hb]) (((still_str _ _).trans (still_note _ _ _ _)).trans (still_take _ _ _)) (fun s1 q1 => ?_)
  refine Res.bind (pathR_res s1) (fun hb => R.needS_bad hb) (still_take _ _ _) (fun s2 q2 => ?_)
  refine (take_res s2 (hd_word rfl (by decide))).mono (fun q3 => ⟨q2.1, ?_⟩)
  have e := (noteIf_keeps (P.strS l (P.takeS l p w)).2 (!R.path (P.strS l (P.takeS l p w)).1) 4 (P.takeS l p w).tok.at_).1
  have a := q3.1
  rw [e] at a
  omega
theorem still_path (l : List UInt8) (p : P.St) (w : List UInt8) : Still p (P.pathS l p w).2 :=
  (((still_take _ _ _).trans (still_str _ _)).trans (still_note _ _ _ _)).trans (still_take _ _ _)

theorem value_res {l : List UInt8} {ts : List R.Tok} {st : R.St} {p : P.St} (h : Sim l ts st p) :
    Res l ts ((P.valueS l p).1 = (R.valueS ts st).1 ∧ p.tok.at_ < (P.valueS l p).2.tok.at_) (R.valueS ts st).2 (P.valueS l p).2 := by
  unfold P.valueS R.valueS
  simp only
  refine Res.bind (take_res h (r := [61]) (hd_word rfl (by decide))) (fun hb => by rw [R.kindS_bad hb, R.notS_bad hb]) ((still_str _ _).trans (still_note _ _ _ _)) (fun s1 q1 => ?_)
  rcases str_res s1 with ⟨h1, q2, q3⟩ | d
  · rw [q2, s1.tok.1.place]
    rw [s1.tok.1.place] at q3
    have := Res.note (Or.inl ⟨h1, trivial⟩ : Res l ts True _ _) (R.value (R.cur ts (R.needS ts st [61])).s) 4 (R.cur ts (R.needS ts st [61])).at_ (fun _ _ => ⟨noted_over (noted_past s1 4) _ _, by omega⟩)
    refine this.mono (fun _ => ⟨rfl, ?_⟩)
    rw [(noteIf_keeps _ _ _ _).1]
    have := q1.1; rw [s1.tok.1.place] at this; omega
  · right; rw [R.notS_bad d.bad]; exact dead_note d _ _ _
theorem still_value (l : List UInt8) (p : P.St) : Still p (P.valueS l p).2 := ((still_take _ _ _).trans (still_str _ _)).trans (still_note _ _ _ _)

/-- Many notes of one place and one kind are one. -/
theorem among_eq {l : List (List UInt8)} {s : List UInt8} {a : Int} : ∀ {st : R.St}, R.among l s a st = R.notS st (!l.any fun n => decide (n = s)) 5 a := by
  unfold R.among
  induction l with
  | nil => intro st; simp [R.notS]
  | cons x l ih =>
    intro st
    rw [List.foldl_cons, ih, List.any_cons]
    by_cases h : x = s
    · subst h
      rw [show decide (x ≠ x) = false by simp, show decide (x = x) = true by simp, Bool.true_or, Bool.not_true]
      by_cases h1 : st.E = 0 ∧ st.bad < 0
      · have h2 : R.notS st false 5 a = { st with E := 5, at_ := a } := by unfold R.notS; rw [if_pos ⟨rfl, h1.1, h1.2⟩]
        rw [h2]; unfold R.notS; rw [if_neg (fun c => absurd c.2.1 (by simp))]
      · have h2 : R.notS st false 5 a = st := by unfold R.notS; rw [if_neg (fun c => h1 c.2)]
        rw [h2]; unfold R.notS; rw [if_neg (fun c => h1 c.2)]
    · rw [show decide (x ≠ s) = true by simpa using h, show decide (x = s) = false by simpa using h, Bool.false_or]
      have : R.notS st true 5 a = st := by unfold R.notS; rw [if_neg (by simp)]
      rw [this]
theorem amongN_eq {l : List Int} {s : Int} {a : Int} : ∀ {st : R.St}, R.amongN l s a st = R.notS st (!l.any fun n => decide (n = s)) 5 a := by
  unfold R.amongN
  induction l with
  | nil => intro st; simp [R.notS]
  | cons x l ih =>
    intro st
    rw [List.foldl_cons, ih, List.any_cons]
    by_cases h : x = s
    · subst h
      rw [show decide (x = x) = true by simp, Bool.true_or, Bool.not_true]
      by_cases h1 : st.E = 0 ∧ st.bad < 0
      · have h2 : R.notS st false 5 a = { st with E := 5, at_ := a } := by unfold R.notS; rw [if_pos ⟨rfl, h1.1, h1.2⟩]
        rw [h2]; unfold R.notS; rw [if_neg (fun c => absurd c.2.1 (by simp))]
      · have h2 : R.notS st false 5 a = st := by unfold R.notS; rw [if_neg (fun c => h1 c.2)]
        rw [h2]; unfold R.notS; rw [if_neg (fun c => h1 c.2)]
    · rw [show decide (x = s) = false by simpa using h, Bool.false_or, Bool.not_false]
      have : R.notS st true 5 a = st := by unfold R.notS; rw [if_neg (by simp)]
      rw [this]

/-- A header's name, and that it is none of some. -/
theorem edited_res {l : List UInt8} {ts : List R.Tok} {st : R.St} {p : P.St} (h : Sim l ts st p) (am : List (List UInt8)) :
    Res l ts ((P.editedS l p am).1 = (R.headerS ts st am).1 ∧ p.tok.at_ < (P.editedS l p am).2.tok.at_) (R.headerS ts st am).2 (P.editedS l p am).2 := by
  unfold P.editedS P.headerS R.headerS
  simp only
  rw [among_eq]
  rcases str_res h with ⟨h1, q2, q3⟩ | d
  · rw [q2, h.tok.1.place]
    rw [h.tok.1.place] at q3
    have r1 := Res.note (Or.inl ⟨h1, trivial⟩ : Res l ts True _ _) (R.header (R.cur ts st).s true) 4 (R.cur ts st).at_ (fun _ _ => ⟨noted_over (noted_past h 4) _ _, by omega⟩)
    have r2 := Res.note r1 (!am.any fun n => decide (n = R.lower (R.cur ts st).s)) 5 (R.cur ts st).at_ (fun _ q => ⟨q.2 5 (by decide), by rw [(noteIf_keeps _ _ _ _).1]; omega⟩)
    rw [Bool.not_not] at r2
    refine r2.mono (fun _ => ⟨rfl, ?_⟩)
    rw [(noteIf_keeps _ _ _ _).1, (noteIf_keeps _ _ _ _).1]; omega
  · right; rw [R.notS_bad (by rw [R.notS_bad d.bad]; exact d.bad), R.notS_bad d.bad]; exact dead_note (dead_note d _ _ _) _ _ _
theorem still_header (l : List UInt8) (p : P.St) : Still p (P.headerS l p).2 := (still_str _ _).trans (still_note _ _ _ _)
theorem still_edited (l : List UInt8) (p : P.St) (am : List (List UInt8)) : Still p (P.editedS l p am).2 := (still_header _ _).trans (still_note _ _ _ _)
theorem edited_nil (l : List UInt8) (p : P.St) : P.editedS l p [] = P.headerS l p := by unfold P.editedS; simp [P.noteIf]

/-- One more of something: noted ahead of its word, or behind it. -/
theorem more_res {l : List UInt8} {ts : List R.Tok} {st : R.St} {p : P.St} (h : Sim l ts st p) (r : List UInt8) (hr : headOk r) (n : Nat) (m : Int) :
    Res l ts (p.tok.at_ < (P.takeS l (P.oneMore p n m) r).tok.at_ ∧ R.isB st (R.cur ts st) r = true) (R.notS (R.needS ts st r) (decide ((n : Int) < m)) 3 (R.cur ts st).at_) (P.takeS l (P.oneMore p n m) r) := by
  unfold P.oneMore
  rw [take_note]
  have hd : decide (m ≤ (n : Int)) = !decide ((n : Int) < m) := by
    rw [Bool.eq_iff_iff]; simp
  rw [hd, h.tok.1.place]
  have r1 := take_res h hr
  rw [h.tok.1.place] at r1
  have r2 := Res.note r1 (decide ((n : Int) < m)) 3 (R.cur ts st).at_ (fun _ q => ⟨noted_over (noted_past h 3) _ _, by omega⟩)
  refine r2.mono (fun q => ⟨?_, q.1.2⟩)
  rw [(noteIf_keeps _ _ _ _).1]; exact q.1.1
theorem still_more (l : List UInt8) (p : P.St) (a b : Int) (r : List UInt8) : Still p (P.takeS l (P.oneMore p a b) r) := (still_one _ _ _).trans (still_take _ _ _)

theorem hd59 : headOk [59] := hd_word rfl (by decide)
theorem hd61 : headOk [61] := hd_word rfl (by decide)
theorem hd44 : headOk [44] := hd_word rfl (by decide)
theorem hd123 : headOk [123] := hd_word rfl (by decide)
theorem hd125 : headOk [125] := hd_word rfl (by decide)
theorem hdHeader : headOk R.wHeader := hd_word rfl (by decide)
theorem hdSet : headOk R.wSet := hd_word rfl (by decide)
theorem hdDrop : headOk R.wDrop := hd_word rfl (by decide)
theorem hdRule : headOk R.wRule := hd_word rfl (by decide)
theorem hdPath : headOk R.wPath := hd_word rfl (by decide)
theorem hdReplace : headOk R.wReplace := hd_word rfl (by decide)
theorem hdHost : headOk R.wHost := hd_word rfl (by decide)
theorem hdTo : headOk P.wTo := hd_word rfl (by decide)

/-- A match says the same. -/
def mtOf (m : P.Mt) : R.Mt := ⟨m.name, m.val, m.ask⟩
theorem match_res {l : List UInt8} {ts : List R.Tok} {st : R.St} {p : P.St} (h : Sim l ts st p) (accR : List R.Mt) (n : Nat) (hn : accR.length = n) :
    Res l ts ((R.mtRound ts st accR).2 = accR ++ [mtOf (P.matchS l p n).1] ∧ p.tok.at_ < (P.matchS l p n).2.tok.at_) (R.mtRound ts st accR).1 (P.matchS l p n).2 := by
  subst hn
  unfold P.matchS R.mtRound
  simp only
  have r0 : Res l ts ((P.mtA l p accR.length).1 = (R.mtA ts st accR.length).1 ∧ p.tok.at_ < (P.mtA l p accR.length).2.tok.at_) (R.mtA ts st accR.length).2 (P.mtA l p accR.length).2 := by
    unfold P.mtA R.mtA
    have r1 := more_res h R.wHeader hdHeader accR.length 3
    refine Res.bind r1 (fun hb => R.headerS_bad hb) (still_header _ _) (fun s1 q1 => ?_)
    have r2 := edited_res s1 []
    rw [edited_nil] at r2
    exact r2.mono (fun q => ⟨q.1, by have := q1.1; have := q.2; omega⟩)
  refine Res.bind r0 (fun hb => by unfold R.mtB; rw [R.isB_bad hb, if_neg (by simp), R.needS_bad hb]) ?_ (fun s1 q1 => ?_)
  · refine Still.trans ?_ (still_take _ _ _)
    intro hb; unfold P.mtB; rw [sees_broken hb]; exact ⟨hb, rfl⟩
  obtain ⟨_, e2, _⟩ := sees_eq s1 hd61
  unfold P.mtB R.mtB mtOf
  rw [e2, q1.1]
  cases hask : R.isB (R.mtA ts st accR.length).2 (R.cur ts (R.mtA ts st accR.length).2) [61]
  · simp only [Bool.false_eq_true, if_false]
    exact (take_res s1 hd59).mono (fun q => ⟨trivial, by have := q1.2; have := q.1; omega⟩)
  · simp only [if_true]
    refine Res.bind (value_res s1) (fun hb => R.needS_bad hb) (still_take _ _ _) (fun s2 q2 => ?_)
    exact (take_res s2 hd59).mono (fun q => ⟨by rw [q2.1], by have := q1.2; have := q2.2; have := q.1; omega⟩)
theorem still_match (l : List UInt8) (p : P.St) (n : Nat) : Still p (P.matchS l p n).2 := by
  unfold P.matchS
  refine Still.trans (b := (P.mtA l p n).2) ((still_more _ _ _ _ _).trans (still_header _ _)) (Still.trans ?_ (still_take _ _ _))
  unfold P.mtB; split
  · exact still_value _ _
  · exact still_refl _

theorem Sim.atLe {l : List UInt8} {ts : List R.Tok} {st : R.St} {p : P.St} (h : Sim l ts st p) : p.tok.at_ ≤ l.length := by
  obtain ⟨m, q, h1, h2, h3, h4⟩ := h.link
  rw [h4]; have := P.token_le l q h2; omega

theorem mtLoop_res {l : List UInt8} {ts : List R.Tok} : ∀ (n m : Nat) {st : R.St} {p : P.St} (accR : List R.Mt) (accP : List P.Mt), Sim l ts st p → accR = accP.map mtOf → ts.length < n + st.K → l.length < m + p.tok.at_ →
    Res l ts ((R.mtLoop ts n st accR).1 = (P.mtLoop l m p accP).1.map mtOf ∧ p.tok.at_ ≤ (P.mtLoop l m p accP).2.tok.at_) (R.mtLoop ts n st accR).2 (P.mtLoop l m p accP).2 := by
  intro n
  induction n with
  | zero => intro m st p accR accP h _ hn _; have := h.tok.2; omega
  | succ n ih =>
    intro m st p accR accP h ha hn hm
    match m, hm with
    | 0, hm => have := h.atLe; omega
    | m + 1, hm =>
      obtain ⟨_, e2, _⟩ := sees_eq h hdHeader
      rw [R.mtLoop, P.mtLoop, e2]
      cases hgo : R.isB st (R.cur ts st) R.wHeader
      · simp only [Bool.false_eq_true, if_false]
        exact Or.inl ⟨h, ha, Nat.le_refl _⟩
      · simp only [if_true]
        have hK := R.mtRound_K ts st accR hgo
        have r1 := match_res h accR accP.length (by rw [ha, List.length_map])
        rcases r1 with ⟨s1, q1, q2⟩ | d
        · have := ih m (accR ++ [mtOf (P.matchS l p accP.length).1]) (accP ++ [(P.matchS l p accP.length).1]) s1 (by rw [ha]; simp) (by omega) (by omega)
          rw [q1]
          exact this.mono (fun q => ⟨q.1, by have := q.2; omega⟩)
        · right
          rw [R.mtLoop_bad d.bad]
          have : ∀ k acc, P.mtLoop l k (P.matchS l p accP.length).2 acc = (acc, (P.matchS l p accP.length).2) := by
            intro k acc; cases k
            · rfl
            · rw [P.mtLoop, sees_broken d.broken]; rfl
          rw [this]; exact d
theorem still_mtLoop (l : List UInt8) (n : Nat) (p : P.St) (acc : List P.Mt) : Still p (P.mtLoop l n p acc).2 := by
  intro hb
  cases n
  · exact ⟨hb, rfl⟩
  · rw [P.mtLoop, sees_broken hb]; exact ⟨hb, rfl⟩


theorem num_note (l : List UInt8) (p : P.St) (c : Bool) (e a : Int) : P.numS l (P.noteIf p c e a) = ((P.numS l p).1, P.noteIf (P.numS l p).2 c e a) := by
  unfold P.numS; rw [(noteIf_keeps p c e a).1, pass_note, (noteIf_keeps _ c e a).2]

theorem R.notS_E (st : R.St) (ok : Bool) (e a : Int) (h : st.E ≠ 0) : R.notS st ok e a = st := by unfold R.notS; rw [if_neg (fun c => h c.2.1)]
theorem R.kindS_yes {ts : List R.Tok} {st : R.St} {k : Int} (hb : st.bad < 0) (h : (R.cur ts st).k = k) : R.kindS ts st k = { st with K := st.K + 1 } := by
  unfold R.kindS R.overS; rw [if_neg (by omega), if_pos (by rw [h]; simp)]

def wsum (l : List (List UInt8 × Int)) : Int := (l.map Prod.snd).sum
theorem wsum_snoc (l : List (List UInt8 × Int)) (t : List UInt8 × Int) : wsum (l ++ [t]) = wsum l + t.2 := by simp [wsum]

/-- A target says the same. -/
theorem target_res {l : List UInt8} {ts : List R.Tok} {st : R.St} {p : P.St} (hok : R.Ok ts) (h : Sim l ts st p) (i : Nat) (accR : List (List UInt8 × Int)) :
    Res l ts ((R.tgRound ts st i accR).2 = accR ++ ([(P.targetS l p i).1].filter fun t => !(t.2 == 0)) ∧ 0 ≤ (P.targetS l p i).1.2 ∧ p.tok.at_ < (P.targetS l p i).2.tok.at_ ∧ (R.tgRound ts st i accR).1.K = st.K + 2 ∧
      (st.E = 0 → (R.tgRound ts st i accR).1.E ≠ 0 → p.tok.at_ ≤ (R.tgRound ts st i accR).1.at_) ∧ (st.E ≠ 0 → (R.tgRound ts st i accR).1.E = st.E ∧ (R.tgRound ts st i accR).1.at_ = st.at_) ∧
      R.sumL (ts.drop st.K) = (P.targetS l p i).1.2 + R.sumL (ts.drop (st.K + 3))) (R.tgRound ts st i accR).1 (P.targetS l p i).2 := by
  unfold P.targetS P.targetA P.oneMore
  simp only
  rw [str_note]
  simp only
  rw [num_note, num_note]
  simp only
  simp only [noteIf_tok]
  unfold R.tgRound
  simp only
  rcases str_res h with ⟨h1, q1, q2⟩ | d
  · have hk34 : (R.cur ts st).k = 34 := by
      apply Classical.byContradiction; intro hc
      have := h1.nb
      unfold R.kindS R.overS at this
      rw [if_neg (by have := h.nb; omega), if_neg (by simpa using hc)] at this
      have : (0 : Int) ≤ (R.cur ts st).at_ := Int.natCast_nonneg _
      simp only at *; omega
    have hst1 : R.kindS ts st 34 = { st with K := st.K + 1 } := R.kindS_yes h.nb hk34
    rcases num_res h1 with ⟨h2, g1, g2, g3⟩ | d
    · have hst2 : R.kindS ts (R.kindS ts st 34) 49 = { st with K := st.K + 2 } := by rw [R.kindS_yes h1.nb g3, hst1]
      have pl1 := h.tok.1.place
      have pl2 := h1.tok.1.place
      rw [q1, g1, pl1, pl2]
      have hK2 := h1.tok.2
      have hnum := hok.nums _ _ (show ts[(R.kindS ts st 34).K]? = some (R.cur ts (R.kindS ts st 34)) by unfold R.cur; rw [List.getD_eq_getElem?_getD, List.getElem?_eq_getElem hK2]; rfl) g3
      have hd1 : decide ((4 : Int) ≤ i) = !decide ((i : Int) < 4) := by rw [Bool.eq_iff_iff]; simp
      have hd2 : decide (1000 < R.num (R.cur ts (R.kindS ts st 34)).s) = !decide (R.num (R.cur ts (R.kindS ts st 34)).s ≤ 1000) := by rw [Bool.eq_iff_iff]; simp
      rw [hd1, hd2]
      have past1 : Noted (R.kindS ts (R.kindS ts st 34) 49) (R.cur ts st).at_ 3 := noted_over (noted_over (noted_past h 3) _ _) _ _
      have e1 : ((R.cur ts st).at_ : Int) < (R.cur ts (R.kindS ts st 34)).at_ := by rw [pl1, pl2] at q2; omega
      have e2 : ((R.cur ts (R.kindS ts st 34)).at_ : Int) < (P.numS l (P.strS l p).2).2.tok.at_ := by rw [pl2] at g2; omega
      have r1 := Res.note (Or.inl ⟨h2, trivial⟩ : Res l ts True _ _) (decide ((i : Int) < 4)) 3 (R.cur ts st).at_ (fun _ _ => ⟨past1, by omega⟩)
      have r2 := Res.note r1 (R.upstream (R.cur ts st).s) 4 (R.cur ts st).at_ (fun _ q => ⟨q.2 4 (by decide), by rw [(noteIf_keeps _ _ _ _).1]; omega⟩)
      have r3 := Res.note r2 (decide (R.num (R.cur ts (R.kindS ts st 34)).s ≤ 1000)) 4 (R.cur ts (R.kindS ts st 34)).at_ (fun _ q => ⟨fun hE => by
          rcases q.2 4 (by decide) hE with c | c
          · left; omega
          · left; omega, by rw [(noteIf_keeps _ _ _ _).1, (noteIf_keeps _ _ _ _).1]; exact e2⟩)
      refine r3.mono (fun _ => ⟨?_, hnum.1, ?_, ?_, ?_, ?_, ?_⟩)
      · by_cases h0 : 0 < R.num (R.cur ts (R.kindS ts st 34)).s
        · rw [if_pos h0, List.filter_cons, if_pos (by simp; omega)]; rfl
        · rw [if_neg h0, List.filter_cons, if_neg (by simp; omega)]; simp
      · omega
      · rw [R.notS_K, R.notS_K, R.notS_K, hst2]
      · intro hE
        rw [hst2]
        unfold R.notS
        simp only
        repeat' split
        all_goals simp_all
        all_goals omega
      · intro hE
        have q : ∀ ok e a, R.notS { st with K := st.K + 2 } ok e a = { st with K := st.K + 2 } := fun ok e a => R.notS_E _ _ _ _ hE
        rw [hst2, q, q, q]
        exact ⟨rfl, rfl⟩
      · have hK1 := h.tok.2
        have c0 : ts[st.K] = R.cur ts st := by unfold R.cur; rw [List.getD_eq_getElem?_getD, List.getElem?_eq_getElem hK1]; rfl
        have hK2' : st.K + 1 < ts.length := by rw [hst1] at hK2; exact hK2
        have c1 : ts[st.K + 1] = R.cur ts (R.kindS ts st 34) := by rw [hst1]; unfold R.cur; simp only; rw [List.getD_eq_getElem?_getD, List.getElem?_eq_getElem hK2']; rfl
        rw [R.sumL_step ts st.K hK2' (by rw [c0]; exact hk34) (by rw [c1]; exact g3), c1]
    · right
      rw [R.notS_bad (by rw [R.notS_bad (by rw [R.notS_bad d.bad]; exact d.bad), R.notS_bad d.bad]; exact d.bad), R.notS_bad (by rw [R.notS_bad d.bad]; exact d.bad), R.notS_bad d.bad]
      exact dead_note (dead_note (dead_note d _ _ _) _ _ _) _ _ _
  · right
    have hb : R.kindS ts (R.kindS ts st 34) 49 = R.kindS ts st 34 := R.kindS_bad d.bad
    rw [hb]
    rw [R.notS_bad (by rw [R.notS_bad (by rw [R.notS_bad d.bad]; exact d.bad), R.notS_bad d.bad]; exact d.bad), R.notS_bad (by rw [R.notS_bad d.bad]; exact d.bad), R.notS_bad d.bad]
    have := still_num l (P.strS l p).2 d.broken
    exact dead_note (dead_note (dead_note ⟨d.bad, this.1, by rw [this.2]; exact d.place⟩ _ _ _) _ _ _) _ _ _
theorem still_target (l : List UInt8) (p : P.St) (n : Nat) : Still p (P.targetS l p n).2 :=
  ((((still_one _ _ _).trans (still_str _ _)).trans (still_note _ _ _ _)).trans (still_num _ _)).trans (still_note _ _ _ _)


theorem still_tgLoop (l : List UInt8) (n : Nat) (p : P.St) (acc : List (List UInt8 × Int)) : Still p (P.tgLoop l n p acc).2 := by
  intro hb
  cases n
  · exact ⟨hb, rfl⟩
  · rw [P.tgLoop, sees_broken hb]; exact ⟨hb, rfl⟩

/-- The targets from here on. -/
theorem tgLoop_res {l : List UInt8} {ts : List R.Tok} (hok : R.Ok ts) : ∀ (n m : Nat) {st : R.St} {p : P.St} (i : Nat) (accR accP : List (List UInt8 × Int)), Sim l ts st p → accP.length = i → accR = nz accP → (∀ t ∈ accP, 0 ≤ t.2) → ts.length < n + st.K → l.length < m + p.tok.at_ →
    Res l ts ((R.tgLoop ts n st i accR).1 = nz (P.tgLoop l m (P.targetS l p i).2 (accP ++ [(P.targetS l p i).1])).1 ∧ (∀ t ∈ (P.tgLoop l m (P.targetS l p i).2 (accP ++ [(P.targetS l p i).1])).1, 0 ≤ t.2) ∧
      p.tok.at_ < (P.tgLoop l m (P.targetS l p i).2 (accP ++ [(P.targetS l p i).1])).2.tok.at_ ∧
      (st.E = 0 → (R.tgLoop ts n st i accR).2.E ≠ 0 → p.tok.at_ ≤ (R.tgLoop ts n st i accR).2.at_) ∧ (st.E ≠ 0 → (R.tgLoop ts n st i accR).2.E = st.E ∧ (R.tgLoop ts n st i accR).2.at_ = st.at_) ∧
      wsum accP + R.sumL (ts.drop st.K) = wsum (P.tgLoop l m (P.targetS l p i).2 (accP ++ [(P.targetS l p i).1])).1 + R.sumL (ts.drop ((R.tgLoop ts n st i accR).2.K + 1))) (R.tgLoop ts n st i accR).2 (P.tgLoop l m (P.targetS l p i).2 (accP ++ [(P.targetS l p i).1])).2 := by
  intro n
  induction n with
  | zero => intro m st p i accR accP h _ _ _ hn _; have := h.tok.2; omega
  | succ n ih =>
    intro m st p i accR accP h hi ha hpos hn hm
    match m, hm with
    | 0, hm => have := h.atLe; omega
    | m + 1, hm =>
      rw [R.tgLoop, if_pos h.nb]
      rcases target_res hok h i accR with ⟨s1, q1, q2, q3, q4, q5, q6, q7⟩ | d
      · obtain ⟨_, e2, _⟩ := sees_eq s1 hd44
        rw [P.tgLoop, e2]
        have hpos' : ∀ t ∈ accP ++ [(P.targetS l p i).1], 0 ≤ t.2 := by
          intro t ht
          rcases List.mem_append.1 ht with ht | ht
          · exact hpos t ht
          · simp at ht; rw [ht]; exact q2
        have hnz : (R.tgRound ts st i accR).2 = nz (accP ++ [(P.targetS l p i).1]) := by
          rw [q1, ha]; unfold nz; rw [List.filter_append]
        cases hgo : R.isB (R.tgRound ts st i accR).1 (R.cur ts (R.tgRound ts st i accR).1) [44]
        · simp only [Bool.false_eq_true, if_false]
          left
          refine ⟨s1, hnz, hpos', q3, q5, q6, ?_⟩
          rw [wsum_snoc, q7, q4]
          show wsum accP + ((P.targetS l p i).1.2 + R.sumL (ts.drop (st.K + 3))) = wsum accP + (P.targetS l p i).1.2 + R.sumL (ts.drop (st.K + 2 + 1))
          rw [show st.K + 2 + 1 = st.K + 3 from rfl]; omega
        · simp only [if_true]
          have hny := R.needS_yes hgo
          rcases take_res s1 hd44 with ⟨s2, g1, _⟩ | d
          · have ih' := ih m (i + 1) (R.tgRound ts st i accR).2 (accP ++ [(P.targetS l p i).1]) s2 (by simp [hi]) hnz hpos' (by rw [hny]; simp only; omega) (by omega)
            have hlen : (accP ++ [(P.targetS l p i).1]).length = i + 1 := by simp [hi]
            rw [hlen]
            refine ih'.mono (fun q => ⟨q.1, q.2.1, by have := q.2.2.1; omega, ?_, ?_, ?_⟩)
            · intro hE hE'
              by_cases hE1 : (R.tgRound ts st i accR).1.E = 0
              · have := q.2.2.2.1 (by rw [hny]; exact hE1) hE'
                have := q3
                omega
              · have q9 := q.2.2.2.2.1 (by rw [hny]; exact hE1)
                have := q5 hE hE1
                rw [q9.2, hny]; exact this
            · intro hE
              have q8 := q6 hE
              have q9 := q.2.2.2.2.1 (by rw [hny]; show (R.tgRound ts st i accR).1.E ≠ 0; rw [q8.1]; exact hE)
              rw [q9.1, q9.2, hny]; exact q8
            · have := q.2.2.2.2.2
              rw [wsum_snoc] at this
              rw [← this, q7, hny]
              simp only
              rw [q4]
              show wsum accP + ((P.targetS l p i).1.2 + R.sumL (ts.drop (st.K + 3))) = wsum accP + (P.targetS l p i).1.2 + R.sumL (ts.drop (st.K + 2 + 1))
              rw [show st.K + 2 + 1 = st.K + 3 from rfl]; omega
          · right
            rw [R.tgLoop_bad d.bad]
            have hs := ((still_target l (P.takeS l (P.targetS l p i).2 [44]) (accP ++ [(P.targetS l p i).1]).length).trans (still_tgLoop l m _ (accP ++ [(P.targetS l p i).1] ++ [(P.targetS l (P.takeS l (P.targetS l p i).2 [44]) (accP ++ [(P.targetS l p i).1]).length).1]))) d.broken
            exact ⟨d.bad, hs.1, by rw [hs.2]; exact d.place⟩
      · right
        rw [R.isB_bad d.bad]
        simp only [Bool.false_eq_true, if_false]
        have hs := still_tgLoop l (m + 1) (P.targetS l p i).2 (accP ++ [(P.targetS l p i).1]) d.broken
        exact ⟨d.bad, hs.1, by rw [hs.2]; exact d.place⟩

/-- The two readers' states but for what is noted. -/
def SameT (a b : R.St) : Prop := a.K = b.K ∧ a.bad = b.bad
theorem same_over {a b : R.St} (h : SameT a b) (t : R.Tok) (k : Bool) : SameT (R.overS t a k) (R.overS t b k) := by
  unfold R.overS; rw [h.2]; split
  · exact h
  · split
    · exact ⟨by show a.K + 1 = b.K + 1; rw [h.1], rfl⟩
    · exact ⟨h.1, rfl⟩
theorem same_cur {a b : R.St} (h : SameT a b) (ts : List R.Tok) : R.cur ts a = R.cur ts b := by unfold R.cur; rw [h.1]
theorem same_isB {a b : R.St} (h : SameT a b) (t : R.Tok) (r : List UInt8) : R.isB a t r = R.isB b t r := by unfold R.isB; rw [h.2]
theorem same_kind {a b : R.St} (h : SameT a b) (ts : List R.Tok) (k : Int) : SameT (R.kindS ts a k) (R.kindS ts b k) := by unfold R.kindS; rw [same_cur h]; exact same_over h _ _
theorem same_need {a b : R.St} (h : SameT a b) (ts : List R.Tok) (r : List UInt8) : SameT (R.needS ts a r) (R.needS ts b r) := by unfold R.needS; rw [same_cur h, same_isB h]; exact same_over h _ _
theorem same_not (st : R.St) (ok : Bool) (e a : Int) : SameT (R.notS st ok e a) st := by unfold R.notS; split <;> exact ⟨rfl, rfl⟩
theorem SameT.trans {a b c : R.St} (h : SameT a b) (k : SameT b c) : SameT a c := ⟨h.1.trans k.1, h.2.trans k.2⟩
theorem SameT.symm {a b : R.St} (h : SameT a b) : SameT b a := ⟨h.1.symm, h.2.symm⟩
theorem same_round {a b : R.St} (h : SameT a b) (ts : List R.Tok) (i : Nat) (acc : List (List UInt8 × Int)) : (R.tgRound ts a i acc).2 = (R.tgRound ts b i acc).2 ∧ SameT (R.tgRound ts a i acc).1 (R.tgRound ts b i acc).1 := by
  unfold R.tgRound
  simp only
  have h1 := same_kind h ts 34
  have h2 := same_kind h1 ts 49
  rw [same_cur h, same_cur h1]
  exact ⟨rfl, (((same_not _ _ _ _).trans (same_not _ _ _ _)).trans (same_not _ _ _ _)).trans (h2.trans (((same_not _ _ _ _).trans (same_not _ _ _ _)).trans (same_not _ _ _ _)).symm)⟩
theorem same_tgLoop (ts : List R.Tok) : ∀ (n : Nat) {a b : R.St} (_ : SameT a b) (i : Nat) (acc : List (List UInt8 × Int)), (R.tgLoop ts n a i acc).1 = (R.tgLoop ts n b i acc).1 ∧ SameT (R.tgLoop ts n a i acc).2 (R.tgLoop ts n b i acc).2 := by
  intro n
  induction n with
  | zero => intro a b h i acc; exact ⟨rfl, h⟩
  | succ n ih =>
    intro a b h i acc
    rw [R.tgLoop, R.tgLoop, h.2]
    obtain ⟨e1, e2⟩ := same_round h ts i acc
    split
    · rw [same_cur e2, same_isB e2, e1]
      split
      · exact ih (same_need e2 ts [44]) _ _
      · exact ⟨rfl, e2⟩
    · exact ⟨rfl, h⟩
theorem tgLoop_E (ts : List R.Tok) : ∀ (n : Nat) {st : R.St} (_ : st.E ≠ 0) (i : Nat) (acc : List (List UInt8 × Int)), (R.tgLoop ts n st i acc).2.E = st.E ∧ (R.tgLoop ts n st i acc).2.at_ = st.at_ := by
  intro n
  induction n with
  | zero => intro st h i acc; exact ⟨rfl, rfl⟩
  | succ n ih =>
    intro st h i acc
    rw [R.tgLoop]
    have e0 : (R.kindS ts (R.kindS ts st 34) 49).E = st.E := by unfold R.kindS; rw [R.overS_E, R.overS_E]
    have e1 : (R.kindS ts (R.kindS ts st 34) 49).at_ = st.at_ := by unfold R.kindS; rw [R.overS_at, R.overS_at]
    have er : (R.tgRound ts st i acc).1 = R.kindS ts (R.kindS ts st 34) 49 := by
      unfold R.tgRound; simp only
      have q : ∀ ok e a, R.notS (R.kindS ts (R.kindS ts st 34) 49) ok e a = R.kindS ts (R.kindS ts st 34) 49 := fun ok e a => R.notS_E _ _ _ _ (by rw [e0]; exact h)
      rw [q, q, q]
    split
    · split
      · have hE : (R.needS ts (R.tgRound ts st i acc).1 [44]).E = st.E := by unfold R.needS; rw [R.overS_E, er, e0]
        have hA : (R.needS ts (R.tgRound ts st i acc).1 [44]).at_ = st.at_ := by unfold R.needS; rw [R.overS_at, er, e1]
        have := ih (st := R.needS ts (R.tgRound ts st i acc).1 [44]) (by rw [hE]; exact h) (i + 1) (R.tgRound ts st i acc).2
        rw [hE, hA] at this; exact this
      · simp only; rw [er]; exact ⟨e0, e1⟩
    · exact ⟨rfl, rfl⟩

/-- The tokens are in step, and no rule goes on with the one at hand. -/
def Lost (l : List UInt8) (ts : List R.Tok) (st : R.St) (p : P.St) : Prop := Sim l ts { st with E := p.err, at_ := p.fat } p ∧ (R.cur ts st).k = 34

theorem nz_sum {l : List (List UInt8 × Int)} (h : ∀ t ∈ l, 0 ≤ t.2) : 0 ≤ wsum l ∧ ((nz l).isEmpty = !decide (0 < wsum l)) := by
  induction l with
  | nil => exact ⟨by simp [wsum], by simp [wsum, nz]⟩
  | cons t l ih =>
    obtain ⟨h1, h2⟩ := ih (fun u hu => h u (by simp [hu]))
    have h0 := h t (by simp)
    have hw : wsum (t :: l) = t.2 + wsum l := by simp [wsum]
    refine ⟨by omega, ?_⟩
    rw [hw]
    unfold nz at h2 ⊢
    rw [List.filter_cons]
    by_cases ht : t.2 = 0
    · rw [if_neg (by simp [ht]), h2, ht]; simp
    · rw [if_pos (by simpa using ht)]
      have : 0 < t.2 + wsum l := by omega
      simp [this]
end Go.Proofs.YtfocdefchbnkpaaGreatDoor

/- The two readers agree, part EqC. -/
namespace Go.Proofs.YtfocdefchbnkpaaGreatDoor
open Go.RowKit

theorem dead_same {a b : R.St} {p : P.St} (h : Dead a p) (hs : SameT a b) : Dead b p := ⟨by rw [← hs.2]; exact h.bad, h.broken, by rw [← hs.2]; exact h.place⟩

/-- The targets of a rule. -/
theorem targets_res {l : List UInt8} {ts : List R.Tok} {st : R.St} {p : P.St} (hok : R.Ok ts) (h : Sim l ts st p) :
    Res l ts ((P.targetsS l p).1 = (R.targetsS ts st).1 ∧ p.tok.at_ < (P.targetsS l p).2.tok.at_) (R.targetsS ts st).2 (P.targetsS l p).2 ∨ Lost l ts (R.targetsS ts st).2 (P.targetsS l p).2 := by
  have pl := h.tok.1.place
  unfold P.targetsS R.targetsS
  simp only
  have hr0 := take_res h hdTo
  rw [show P.wTo = [116, 111] from rfl] at hr0
  generalize hb : R.sumL (ts.drop (R.needS ts st [116, 111]).K) = sm
  rcases hr0 with ⟨s1, q1, _⟩ | d
  · have hE1 : (R.needS ts st [116, 111]).E = st.E := by unfold R.needS; rw [R.overS_E]
    have hA1 : (R.needS ts st [116, 111]).at_ = st.at_ := by unfold R.needS; rw [R.overS_at]
    have past : st.E ≠ 0 → st.at_ < (R.cur ts st).at_ := fun hE => by have := h.past hE; rwa [pl] at this
    generalize hp1 : P.takeS l p [116, 111] = p1 at *
    generalize R.needS ts st [116, 111] = st1 at *
    have hall : P.tgAll l p = P.tgLoop l (l.length + 1) (P.targetS l p1 0).2 ([] ++ [(P.targetS l p1 0).1]) := by
      unfold P.tgAll; rw [show P.wTo = [116, 111] from rfl, hp1]; rfl
    have hlp := tgLoop_res hok (ts.length + 1) (l.length + 1) 0 [] [] s1 rfl rfl (by simp) (by omega) (by omega)
    rw [← hall, show wsum [] = 0 from rfl, hb] at hlp
    have hsame := same_tgLoop ts (ts.length + 1) (same_not st1 (decide (0 < sm)) 4 (R.cur ts st).at_) 0 []
    have hEk := tgLoop_E ts (ts.length + 1) (st := R.notS st1 (decide (0 < sm)) 4 (R.cur ts st).at_)
    generalize P.tgAll l p = pa at *
    obtain ⟨accP, p2⟩ := pa
    simp only at hlp ⊢
    rcases hlp with ⟨s2, a1, a2, a3, a4, a5, a6⟩ | d
    · -- the run without the note of 'to'
      rcases take_res s2 hd59 with ⟨s3, b1, b2⟩ | d
      · have hny := R.needS_yes b2
        obtain ⟨z1, z2⟩ := nz_sum a2
        have hnz : (accP.filter fun t => !(t.2 == 0)) = nz accP := rfl
        rw [hnz, z2, hsame.1, a1]
        have hK3 : (R.needS ts (R.tgLoop ts (ts.length + 1) st1 0 []).2 [59]).K = (R.tgLoop ts (ts.length + 1) st1 0 []).2.K + 1 := by rw [hny]
        have hne := same_need hsame.2 ts [59]
        have hE3 : (R.needS ts (R.tgLoop ts (ts.length + 1) st1 0 []).2 [59]).E = (R.tgLoop ts (ts.length + 1) st1 0 []).2.E := by rw [hny]
        have hA3 : (R.needS ts (R.tgLoop ts (ts.length + 1) st1 0 []).2 [59]).at_ = (R.tgLoop ts (ts.length + 1) st1 0 []).2.at_ := by rw [hny]
        by_cases hl : R.sumL (ts.drop ((R.tgLoop ts (ts.length + 1) st1 0 []).2.K + 1)) = 0
        · left
          rw [hl] at a6
          have hsm : sm = wsum accP := by omega
          rw [← hsm]
          by_cases hs0 : 0 < sm
          · rw [decide_eq_true hs0]
            have e1 : R.notS st1 true 4 (R.cur ts st).at_ = st1 := by unfold R.notS; rw [if_neg (by simp)]
            rw [e1]
            left
            refine ⟨?_, (by first | rfl | trivial), ?_⟩
            · simpa [P.noteIf] using s3
            · rw [noteIf_tok]; omega
          · rw [decide_eq_false hs0]
            rw [decide_eq_false hs0] at hsame hEk hne
            simp only [Bool.not_false]
            by_cases hE : st1.E = 0
            · have e1 : R.notS st1 false 4 (R.cur ts st).at_ = { st1 with E := 4, at_ := (R.cur ts st).at_ } := by unfold R.notS; rw [if_pos ⟨rfl, hE, s1.nb⟩]
              rw [e1] at hEk hne ⊢
              obtain ⟨f1, f2⟩ := hEk (by show (4 : Int) ≠ 0; decide) 0 []
              simp only at f1 f2
              have g1 : (R.needS ts (R.tgLoop ts (ts.length + 1) { st1 with E := 4, at_ := (R.cur ts st).at_ } 0 []).2 [59]).E = 4 := by unfold R.needS; rw [R.overS_E, f1]
              have g2 : (R.needS ts (R.tgLoop ts (ts.length + 1) { st1 with E := 4, at_ := (R.cur ts st).at_ } 0 []).2 [59]).at_ = (R.cur ts st).at_ := by unfold R.needS; rw [R.overS_at, f2]
              have hnote : P.noteIf (P.takeS l p2 [59]) true 4 p.tok.at_ = { P.takeS l p2 [59] with err := 4, fat := p.tok.at_ } := by
                unfold P.noteIf P.noteS
                rw [if_pos rfl, if_pos]
                by_cases hz : (P.takeS l p2 [59]).err = 0
                · exact Or.inl hz
                · right; left
                  have e3 : (R.tgLoop ts (ts.length + 1) st1 0 []).2.E ≠ 0 := by rw [← hE3, ← s3.err]; exact hz
                  have e4 := a4 hE e3
                  rw [s3.fat (by rw [hE3]; exact e3), hA3]
                  omega
              rw [hnote]
              left
              refine ⟨⟨by rw [hne.2]; exact s3.nb, s3.nk, ?_, by rw [g1], fun _ => by rw [g2, ← pl], fun _ => ?_⟩, (by first | rfl | trivial), ?_⟩
              · obtain ⟨m, q, k1, k2, k3, k4⟩ := s3.link
                exact ⟨m, q, k1, k2, by rw [hne.1]; exact k3, k4⟩
              · rw [g2, ← pl]
                show (p.tok.at_ : Int) < (P.takeS l p2 [59]).tok.at_
                omega
              · show p.tok.at_ < (P.takeS l p2 [59]).tok.at_
                omega
            · have e1 : R.notS st1 false 4 (R.cur ts st).at_ = st1 := R.notS_E _ _ _ _ hE
              rw [e1]
              obtain ⟨f1, f2⟩ := a5 hE
              have hfat : (P.takeS l p2 [59]).fat = st1.at_ := by rw [s3.fat (by rw [hE3, f1]; exact hE), hA3, f2]
              have herr : (P.takeS l p2 [59]).err = st1.E := by rw [s3.err, hE3, f1]
              have hlt : st1.at_ < p.tok.at_ := by rw [hA1]; exact h.past (by rw [← hE1]; exact hE)
              have hnote : P.noteIf (P.takeS l p2 [59]) true 4 p.tok.at_ = P.takeS l p2 [59] := by
                unfold P.noteIf P.noteS
                rw [if_pos rfl, herr, hfat, if_neg]
                intro c; rcases c with c | c | c
                · exact hE c
                · omega
                · omega
              rw [hnote]
              exact Or.inl ⟨s3, (by first | rfl | trivial), by omega⟩
        · right
          have hk34 : (R.cur ts (R.needS ts (R.tgLoop ts (ts.length + 1) st1 0 []).2 [59])).k = 34 := by
            apply Classical.byContradiction; intro hc
            apply hl
            rw [← hK3]
            apply R.sumL_stop
            rintro ⟨hx, h1, _⟩
            apply hc
            unfold R.cur; rw [List.getD_eq_getElem?_getD, List.getElem?_eq_getElem (by omega)]; exact h1
          refine ⟨?_, by rw [same_cur hne]; exact hk34⟩
          have hkeep := noteIf_tok (P.takeS l p2 [59]) (!decide (0 < wsum accP)) 4 p.tok.at_
          have hbrk := (noteIf_keeps (P.takeS l p2 [59]) (!decide (0 < wsum accP)) 4 p.tok.at_).2
          obtain ⟨m, q, k1, k2, k3, k4⟩ := s3.link
          refine ⟨by show _ < _; rw [hne.2]; exact s3.nb, by rw [hbrk]; exact s3.nk, ⟨m, q, k1, k2, by show ts.drop _ = _; rw [hne.1]; exact k3, by rw [hkeep]; exact k4⟩, rfl, fun _ => rfl, ?_⟩
          intro hE
          rw [hkeep]
          show (P.noteIf (P.takeS l p2 [59]) (!decide (0 < wsum accP)) 4 p.tok.at_).fat < _
          have hE' : (P.noteIf (P.takeS l p2 [59]) (!decide (0 < wsum accP)) 4 p.tok.at_).err ≠ 0 := hE
          unfold P.noteIf P.noteS at hE' ⊢
          split
          · split
            · show (p.tok.at_ : Int) < _; omega
            · rename_i _ hc
              have hz : (P.takeS l p2 [59]).err ≠ 0 := fun e => hc (Or.inl e)
              rw [s3.fat (by rw [← s3.err]; exact hz)]
              exact s3.past (by rw [← s3.err]; exact hz)
          · rename_i hc
            rw [if_neg hc] at hE'
            rw [s3.fat (by rw [← s3.err]; exact hE')]
            exact s3.past (by rw [← s3.err]; exact hE')
      · left; right
        exact dead_note (dead_same d (same_need hsame.2.symm ts [59])) _ _ _
    · left; right
      have d1 := dead_same d hsame.2.symm
      rw [R.needS_bad d1.bad]
      have hs := still_take l p2 [59] d1.broken
      exact dead_note ⟨d1.bad, hs.1, by rw [hs.2]; exact d1.place⟩ _ _ _
  · left; right
    have e1 : R.notS (R.needS ts st [116, 111]) (decide (0 < sm)) 4 (R.cur ts st).at_ = R.needS ts st [116, 111] := R.notS_bad d.bad
    rw [e1, R.tgLoop_bad d.bad]
    rw [R.needS_bad d.bad]
    have hs : Still (P.takeS l p [116, 111]) (P.noteIf (P.takeS l (P.tgAll l p).2 [59]) ((P.tgAll l p).1.filter fun t => !(t.2 == 0)).isEmpty 4 p.tok.at_) := by
      refine Still.trans ?_ (still_note _ _ _ _)
      refine Still.trans ?_ (still_take _ _ _)
      exact (still_target _ _ _).trans (still_tgLoop _ _ _ _)
    have hs := hs d.broken
    exact ⟨d.bad, hs.1, by rw [hs.2]; exact d.place⟩


theorem still_set (l : List UInt8) (p : P.St) (n : Nat) (am : List (List UInt8)) : Still p (P.setS l p n am).2 :=
  (((still_more _ _ _ _ _).trans (still_edited _ _ _)).trans (still_value _ _)).trans (still_take _ _ _)
theorem still_drop (l : List UInt8) (p : P.St) (n : Nat) (am : List (List UInt8)) : Still p (P.dropS l p n am).2 :=
  ((still_more _ _ _ _ _).trans (still_edited _ _ _)).trans (still_take _ _ _)

theorem set_res {l : List UInt8} {ts : List R.Tok} {st : R.St} {p : P.St} (h : Sim l ts st p) (acc : List (List UInt8 × List UInt8)) :
    Res l ts ((R.stRound ts st acc).2 = acc ++ [(P.setS l p acc.length (acc.map Prod.fst)).1] ∧ p.tok.at_ < (P.setS l p acc.length (acc.map Prod.fst)).2.tok.at_) (R.stRound ts st acc).1 (P.setS l p acc.length (acc.map Prod.fst)).2 := by
  unfold P.setS R.stRound
  simp only
  have r0 : Res l ts ((P.setA l p acc.length (acc.map Prod.fst)).1 = (R.stA ts st acc.length (acc.map Prod.fst)).1 ∧ p.tok.at_ < (P.setA l p acc.length (acc.map Prod.fst)).2.tok.at_) (R.stA ts st acc.length (acc.map Prod.fst)).2 (P.setA l p acc.length (acc.map Prod.fst)).2 := by
    unfold P.setA R.stA
    refine Res.bind (more_res h R.wSet hdSet acc.length 3) (fun hb => R.headerS_bad hb) (still_edited _ _ _) (fun s1 q1 => ?_)
    exact (edited_res s1 (acc.map Prod.fst)).mono (fun q => ⟨q.1, by have := q1.1; have := q.2; omega⟩)
  refine Res.bind r0 (fun hb => by rw [R.valueS_bad hb, R.needS_bad hb]) ((still_value _ _).trans (still_take _ _ _)) (fun s1 q1 => ?_)
  refine Res.bind (value_res s1) (fun hb => R.needS_bad hb) (still_take _ _ _) (fun s2 q2 => ?_)
  exact (take_res s2 hd59).mono (fun q => ⟨by rw [q1.1, q2.1], by have := q1.2; have := q2.2; have := q.1; omega⟩)
theorem drop_res {l : List UInt8} {ts : List R.Tok} {st : R.St} {p : P.St} (h : Sim l ts st p) (sets acc : List (List UInt8)) :
    Res l ts ((R.dpRound ts st sets acc).2 = acc ++ [(P.dropS l p acc.length (sets ++ acc)).1] ∧ p.tok.at_ < (P.dropS l p acc.length (sets ++ acc)).2.tok.at_) (R.dpRound ts st sets acc).1 (P.dropS l p acc.length (sets ++ acc)).2 := by
  unfold P.dropS R.dpRound
  simp only
  have r0 : Res l ts ((P.dropA l p acc.length (sets ++ acc)).1 = (R.dpA ts st acc.length (sets ++ acc)).1 ∧ p.tok.at_ < (P.dropA l p acc.length (sets ++ acc)).2.tok.at_) (R.dpA ts st acc.length (sets ++ acc)).2 (P.dropA l p acc.length (sets ++ acc)).2 := by
    unfold P.dropA R.dpA
    refine Res.bind (more_res h R.wDrop hdDrop acc.length 3) (fun hb => R.headerS_bad hb) (still_edited _ _ _) (fun s1 q1 => ?_)
    exact (edited_res s1 (sets ++ acc)).mono (fun q => ⟨q.1, by have := q1.1; have := q.2; omega⟩)
  refine Res.bind r0 (fun hb => R.needS_bad hb) (still_take _ _ _) (fun s1 q1 => ?_)
  exact (take_res s1 hd59).mono (fun q => ⟨by rw [q1.1], by have := q1.2; have := q.1; omega⟩)

theorem still_stLoop (l : List UInt8) (n : Nat) (p : P.St) (acc : List (List UInt8 × List UInt8)) : Still p (P.stLoop l n p acc).2 := by
  intro hb
  cases n
  · exact ⟨hb, rfl⟩
  · rw [P.stLoop, sees_broken hb]; exact ⟨hb, rfl⟩
theorem still_dpLoop (l : List UInt8) (sets : List (List UInt8)) (n : Nat) (p : P.St) (acc : List (List UInt8)) : Still p (P.dpLoop l sets n p acc).2 := by
  intro hb
  cases n
  · exact ⟨hb, rfl⟩
  · rw [P.dpLoop, sees_broken hb]; exact ⟨hb, rfl⟩

theorem stLoop_res {l : List UInt8} {ts : List R.Tok} : ∀ (n m : Nat) {st : R.St} {p : P.St} (acc : List (List UInt8 × List UInt8)), Sim l ts st p → ts.length < n + st.K → l.length < m + p.tok.at_ →
    Res l ts ((R.stLoop ts n st acc).1 = (P.stLoop l m p acc).1 ∧ p.tok.at_ ≤ (P.stLoop l m p acc).2.tok.at_) (R.stLoop ts n st acc).2 (P.stLoop l m p acc).2 := by
  intro n
  induction n with
  | zero => intro m st p acc h hn _; have := h.tok.2; omega
  | succ n ih =>
    intro m st p acc h hn hm
    match m, hm with
    | 0, hm => have := h.atLe; omega
    | m + 1, hm =>
      obtain ⟨_, e2, _⟩ := sees_eq h hdSet
      rw [R.stLoop, P.stLoop, e2]
      cases hgo : R.isB st (R.cur ts st) R.wSet
      · simp only [Bool.false_eq_true, if_false]
        exact Or.inl ⟨h, (by first | rfl | trivial), Nat.le_refl _⟩
      · simp only [if_true]
        have hK := R.stRound_K ts st acc hgo
        rcases set_res h acc with ⟨s1, q1, q2⟩ | d
        · rw [q1]
          exact (ih m _ s1 (by omega) (by omega)).mono (fun q => ⟨q.1, by have := q.2; omega⟩)
        · right
          rw [R.stLoop_bad d.bad]
          have hs := still_stLoop l m _ (acc ++ [(P.setS l p acc.length (acc.map Prod.fst)).1]) d.broken
          exact ⟨d.bad, hs.1, by rw [hs.2]; exact d.place⟩
theorem dpLoop_res {l : List UInt8} {ts : List R.Tok} (sets : List (List UInt8)) : ∀ (n m : Nat) {st : R.St} {p : P.St} (acc : List (List UInt8)), Sim l ts st p → ts.length < n + st.K → l.length < m + p.tok.at_ →
    Res l ts ((R.dpLoop ts sets n st acc).1 = (P.dpLoop l sets m p acc).1 ∧ p.tok.at_ ≤ (P.dpLoop l sets m p acc).2.tok.at_) (R.dpLoop ts sets n st acc).2 (P.dpLoop l sets m p acc).2 := by
  intro n
  induction n with
  | zero => intro m st p acc h hn _; have := h.tok.2; omega
  | succ n ih =>
    intro m st p acc h hn hm
    match m, hm with
    | 0, hm => have := h.atLe; omega
    | m + 1, hm =>
      obtain ⟨_, e2, _⟩ := sees_eq h hdDrop
      rw [R.dpLoop, P.dpLoop, e2]
      cases hgo : R.isB st (R.cur ts st) R.wDrop
      · simp only [Bool.false_eq_true, if_false]
        exact Or.inl ⟨h, (by first | rfl | trivial), Nat.le_refl _⟩
      · simp only [if_true]
        have hK := R.dpRound_K ts st sets acc hgo
        rcases drop_res h sets acc with ⟨s1, q1, q2⟩ | d
        · rw [q1]
          exact (ih m _ s1 (by omega) (by omega)).mono (fun q => ⟨q.1, by have := q.2; omega⟩)
        · right
          rw [R.dpLoop_bad d.bad]
          have hs := still_dpLoop l sets m _ (acc ++ [(P.dropS l p acc.length (sets ++ acc)).1]) d.broken
          exact ⟨d.bad, hs.1, by rw [hs.2]; exact d.place⟩

/-- A rule says the same. -/
def rlOf (r : P.Rl) (ch : Bool) : R.Rl := ⟨r.number, r.path, r.ms.map mtOf, r.tg, ch, r.rep, r.sets, r.drops⟩
/-- .. whatever it says of 'replace' with an empty path. -/
def RlSim (a : R.Rl) (b : P.Rl) : Prop := a = rlOf b a.change ∧ (a.change = false → b.rep = [])

theorem ruleNo_res {l : List UInt8} {ts : List R.Tok} {st : R.St} {p : P.St} (h : Sim l ts st p) (others : List Int) :
    Res l ts ((P.ruleNoS l p others).1 = (R.rlA2 ts st others).1 ∧ p.tok.at_ < (P.ruleNoS l p others).2.tok.at_) (R.rlA2 ts st others).2 (P.ruleNoS l p others).2 := by
  unfold P.ruleNoS R.rlA2
  simp only
  rw [amongN_eq]
  rcases num_res h with ⟨h1, q2, q3, _⟩ | d
  · rw [q2, h.tok.1.place]
    rw [h.tok.1.place] at q3
    have hd : decide (65535 < R.num (R.cur ts st).s) = !decide (R.num (R.cur ts st).s ≤ 65535) := by rw [Bool.eq_iff_iff]; simp
    rw [hd]
    have r1 := Res.note (Or.inl ⟨h1, trivial⟩ : Res l ts True _ _) (decide (R.num (R.cur ts st).s ≤ 65535)) 4 (R.cur ts st).at_ (fun _ _ => ⟨noted_over (noted_past h 4) _ _, by omega⟩)
    have r2 := Res.note r1 (!others.any fun n => decide (n = R.num (R.cur ts st).s)) 5 (R.cur ts st).at_ (fun _ q => ⟨q.2 5 (by decide), by rw [noteIf_tok]; omega⟩)
    rw [Bool.not_not] at r2
    refine r2.mono (fun _ => ⟨rfl, ?_⟩)
    rw [noteIf_tok, noteIf_tok]; omega
  · right; rw [R.notS_bad (by rw [R.notS_bad d.bad]; exact d.bad), R.notS_bad d.bad]; exact dead_note (dead_note d _ _ _) _ _ _
theorem still_ruleNo (l : List UInt8) (p : P.St) (o : List Int) : Still p (P.ruleNoS l p o).2 := ((still_num _ _).trans (still_note _ _ _ _)).trans (still_note _ _ _ _)
theorem still_rlA (l : List UInt8) (p : P.St) (o : List Int) : Still p (P.rlA l p o).2 := (still_more _ _ _ _ _).trans (still_ruleNo _ _ _)
theorem still_rlB (l : List UInt8) (p : P.St) : Still p (P.rlB l p).2 := (still_take _ _ _).trans (still_path _ _ _)
theorem still_rlC (l : List UInt8) (p : P.St) : Still p (P.rlC l p).2 := by
  unfold P.rlC; split
  · exact still_path _ _ _
  · exact still_refl _
theorem still_targets (l : List UInt8) (p : P.St) : Still p (P.targetsS l p).2 := by
  unfold P.targetsS
  refine Still.trans ?_ (still_note _ _ _ _)
  refine Still.trans ?_ (still_take _ _ _)
  exact ((still_take _ _ _).trans (still_target _ _ _)).trans (still_tgLoop _ _ _ _)
theorem still_ruleF (l : List UInt8) (n : Int) (a : List UInt8) (m : List P.Mt) (t : List (List UInt8 × Int)) (c : List UInt8 × P.St) (s : List (List UInt8 × List UInt8) × P.St) : Still s.2 (P.ruleF l n a m t c s).2 :=
  (still_dpLoop _ _ _ _ _).trans (still_take _ _ _)
theorem still_ruleE (l : List UInt8) (n : Int) (a : List UInt8) (m : List P.Mt) (t : List (List UInt8 × Int) × P.St) : Still t.2 (P.ruleE l n a m t).2 :=
  ((still_rlC _ _).trans (still_stLoop _ _ _ _)).trans (still_ruleF _ _ _ _ _ _ _)
theorem still_ruleT (l : List UInt8) (a : Int × P.St) : Still a.2 (P.ruleT l a).2 :=
  (((still_rlB _ _).trans (still_mtLoop _ _ _ _)).trans (still_targets _ _)).trans (still_ruleE _ _ _ _ _)
theorem still_rule (l : List UInt8) (p : P.St) (o : List Int) : Still p (P.ruleS l p o).2 := (still_rlA _ _ _).trans (still_ruleT _ _)

theorem rlA_res {l : List UInt8} {ts : List R.Tok} {st : R.St} {p : P.St} (h : Sim l ts st p) (others : List Int) :
    Res l ts ((P.rlA l p others).1 = (R.rlA ts st others.length others).1 ∧ p.tok.at_ < (P.rlA l p others).2.tok.at_) (R.rlA ts st others.length others).2 (P.rlA l p others).2 := by
  unfold P.rlA R.rlA
  refine Res.bind (more_res h R.wRule hdRule others.length 6) (fun hb => by unfold R.rlA2; simp only; rw [R.kindS_bad hb, R.notS_bad hb, R.amongN_bad hb]) (still_ruleNo _ _ _) (fun s1 q1 => ?_)
  exact (ruleNo_res s1 others).mono (fun q => ⟨q.1, by have := q1.1; have := q.2; omega⟩)

/-- What follows the targets. -/
theorem ruleE_res {l : List UInt8} {ts : List R.Tok} {tR : List (List UInt8 × Int) × R.St} {tP : List (List UInt8 × Int) × P.St} (h : Sim l ts tR.2 tP.2) (n : Int) (a : List UInt8) (mR : List R.Mt) (mP : List P.Mt) (hm : mR = mP.map mtOf) (ht : tR.1 = tP.1) :
    Res l ts (RlSim (R.ruleE ts n a mR tR).1 (P.ruleE l n a mP tP).1 ∧ tP.2.tok.at_ < (P.ruleE l n a mP tP).2.tok.at_) (R.ruleE ts n a mR tR).2 (P.ruleE l n a mP tP).2 := by
  unfold R.ruleE P.ruleE P.ruleF R.editsS
  simp only
  obtain ⟨_, e2, _⟩ := sees_eq h hdReplace
  have rC : Res l ts ((P.rlC l tP.2).1 = (R.rlC ts tR.2).1 ∧ (R.isB tR.2 (R.cur ts tR.2) R.wReplace = false → (P.rlC l tP.2).1 = []) ∧ tP.2.tok.at_ ≤ (P.rlC l tP.2).2.tok.at_) (R.rlC ts tR.2).2 (P.rlC l tP.2).2 := by
    unfold P.rlC R.rlC
    rw [e2]
    cases hb : R.isB tR.2 (R.cur ts tR.2) R.wReplace
    · simp only [Bool.false_eq_true, if_false]
      exact Or.inl ⟨h, (by first | rfl | trivial), (by first | trivial | exact fun _ => rfl), Nat.le_refl _⟩
    · simp only [if_true]
      exact (path_res h R.wReplace hdReplace).mono (fun q => ⟨q.1, fun c => absurd c (by simp), by have := q.2; omega⟩)
  refine Res.bind rC (fun hb => by rw [R.stLoop_bad hb, R.dpLoop_bad hb, R.needS_bad hb]) (((still_stLoop _ _ _ _).trans (still_dpLoop _ _ _ _ _)).trans (still_take _ _ _)) (fun s1 q1 => ?_)
  refine Res.bind (stLoop_res (ts.length + 1) (l.length + 1) [] s1 (by omega) (by omega)) (fun hb => by rw [R.dpLoop_bad hb, R.needS_bad hb]) ((still_dpLoop _ _ _ _ _).trans (still_take _ _ _)) (fun s2 q2 => ?_)
  rw [q2.1]
  refine Res.bind (dpLoop_res ((P.stLoop l (l.length + 1) (P.rlC l tP.2).2 []).1.map Prod.fst) (ts.length + 1) (l.length + 1) [] s2 (by omega) (by omega)) (fun hb => R.needS_bad hb) (still_take _ _ _) (fun s3 q3 => ?_)
  refine (take_res s3 hd125).mono (fun q => ⟨⟨?_, ?_⟩, by have := q1.2.2; have := q2.2; have := q3.2; have := q.1; omega⟩)
  · unfold rlOf
    simp only
    rw [hm, ht, q1.1, q3.1]
  · exact q1.2.1

theorem cur_with (ts : List R.Tok) (st : R.St) (e a : Int) : R.cur ts { st with E := e, at_ := a } = R.cur ts st := rfl
theorem isB_with (st : R.St) (t : R.Tok) (r : List UInt8) (e a : Int) : R.isB { st with E := e, at_ := a } t r = R.isB st t r := rfl
/-- .. where a string follows them: no rule goes on so. -/
theorem ruleE_lost {l : List UInt8} {ts : List R.Tok} {tR : List (List UInt8 × Int) × R.St} {tP : List (List UInt8 × Int) × P.St} (h : Lost l ts tR.2 tP.2) (n : Int) (a : List UInt8) (mR : List R.Mt) (mP : List P.Mt) :
    Dead (R.ruleE ts n a mR tR).2 (P.ruleE l n a mP tP).2 := by
  obtain ⟨h, hk⟩ := h
  have hno : ∀ r, R.isB tR.2 (R.cur ts tR.2) r = false := by
    intro r; unfold R.isB; rw [hk]; simp
  have hse : ∀ r, headOk r → P.sees tP.2 r = false := by
    intro r hr; rw [(sees_eq h hr).2.1, cur_with, isB_with, hno]
  unfold R.ruleE P.ruleE P.ruleF R.editsS
  simp only
  have c1 : R.rlC ts tR.2 = ([], tR.2) := by unfold R.rlC; rw [hno]; rfl
  have c2 : P.rlC l tP.2 = ([], tP.2) := by unfold P.rlC; rw [hse _ hdReplace]; rfl
  rw [c1, c2]
  simp only
  have c3 : ∀ n, R.stLoop ts n tR.2 [] = ([], tR.2) := by intro n; cases n; rfl; rw [R.stLoop, hno]; rfl
  have c4 : ∀ n, P.stLoop l n tP.2 [] = ([], tP.2) := by intro n; cases n; rfl; rw [P.stLoop, hse _ hdSet]; rfl
  rw [c3, c4]
  simp only
  have c5 : ∀ s n, R.dpLoop ts s n tR.2 [] = ([], tR.2) := by intro s n; cases n; rfl; rw [R.dpLoop, hno]; rfl
  have c6 : ∀ s n, P.dpLoop l s n tP.2 [] = ([], tP.2) := by intro s n; cases n; rfl; rw [P.dpLoop, hse _ hdDrop]; rfl
  rw [c5, c6]
  simp only
  rcases take_res h hd125 with ⟨_, _, c⟩ | d
  · rw [cur_with, isB_with, hno] at c; cases c
  · refine dead_same d ?_
    exact same_need (a := { tR.2 with E := tP.2.err, at_ := tP.2.fat }) (b := tR.2) ⟨rfl, rfl⟩ ts [125]

theorem rule_res {l : List UInt8} {ts : List R.Tok} {st : R.St} {p : P.St} (hok : R.Ok ts) (h : Sim l ts st p) (others : List Int) :
    Res l ts (RlSim (R.ruleS ts st others.length others).1 (P.ruleS l p others).1 ∧ p.tok.at_ < (P.ruleS l p others).2.tok.at_) (R.ruleS ts st others.length others).2 (P.ruleS l p others).2 := by
  unfold R.ruleS P.ruleS
  have eT : ∀ a, R.ruleT ts a = R.ruleE ts a.1 (R.rlB ts a.2).1 (R.matchesS ts (R.rlB ts a.2).2).1 (R.targetsS ts (R.matchesS ts (R.rlB ts a.2).2).2) := fun a => rfl
  refine Res.bind (rlA_res h others) (fun hb => by
    have := R.ruleS_bad (ts := ts) (st := (R.rlA ts st others.length others).2) (i := 0) (l := []) hb
    rw [eT]
    have b1 : (R.rlB ts (R.rlA ts st others.length others).2).2 = (R.rlA ts st others.length others).2 := R.rlB_bad hb
    have b2 : R.matchesS ts (R.rlA ts st others.length others).2 = ([], (R.rlA ts st others.length others).2) := R.mtLoop_bad hb
    rw [b1, b2]
    have b3 : (R.targetsS ts (R.rlA ts st others.length others).2).2 = (R.rlA ts st others.length others).2 := R.targetsS_bad hb
    unfold R.ruleE
    simp only
    rw [b3, R.rlC_bad hb, R.editsS_bad hb, R.needS_bad hb]) (still_ruleT _ _) (fun s0 q0 => ?_)
  rw [eT]
  unfold P.ruleT P.ruleD
  rw [q0.1]
  generalize (R.rlA ts st others.length others).2 = sA at *
  generalize (R.rlA ts st others.length others).1 = num at *
  have hA := q0.2
  generalize (P.rlA l p others).2 = pA at *
  have rB : Res l ts ((P.rlB l pA).1 = (R.rlB ts sA).1 ∧ pA.tok.at_ < (P.rlB l pA).2.tok.at_) (R.rlB ts sA).2 (P.rlB l pA).2 := by
    unfold P.rlB R.rlB
    simp only
    refine Res.bind (take_res s0 hd123) (fun hb => by rw [R.needS_bad hb, R.pathS_bad hb, R.needS_bad hb]) (still_path _ _ _) (fun s1 q1 => ?_)
    exact (path_res s1 R.wPath hdPath).mono (fun q => ⟨q.1, by have := q1.1; have := q.2; omega⟩)
  have badE : ∀ (t : List (List UInt8 × Int) × R.St) n a m, 0 ≤ t.2.bad → (R.ruleE ts n a m t).2 = t.2 := by
    intro t n a m hb
    unfold R.ruleE; simp only
    rw [R.rlC_bad hb, R.editsS_bad hb, R.needS_bad hb]
  refine Res.bind rB (fun hb => by
    have b2 : R.matchesS ts (R.rlB ts sA).2 = ([], (R.rlB ts sA).2) := R.mtLoop_bad hb
    rw [b2]
    have b3 : (R.targetsS ts (R.rlB ts sA).2).2 = (R.rlB ts sA).2 := R.targetsS_bad hb
    exact (badE (R.targetsS ts (R.rlB ts sA).2) num (R.rlB ts sA).1 [] (by rw [b3]; exact hb)).trans b3) (((still_mtLoop _ _ _ _).trans (still_targets _ _)).trans (still_ruleE _ _ _ _ _)) (fun s1 q1 => ?_)
  rw [q1.1]
  have hB := q1.2
  generalize (R.rlB ts sA).2 = sB at *
  generalize (R.rlB ts sA).1 = pth at *
  generalize (P.rlB l pA).2 = pB at *
  have rM := mtLoop_res (ts.length + 1) (l.length + 1) [] [] s1 rfl (by omega) (by omega)
  rw [show R.mtLoop ts (ts.length + 1) sB [] = R.matchesS ts sB from rfl] at rM
  generalize R.matchesS ts sB = mR at *
  generalize P.mtLoop l (l.length + 1) pB [] = mP at *
  refine Res.bind rM (fun hb => by
    have b3 : (R.targetsS ts mR.2).2 = mR.2 := R.targetsS_bad hb
    exact (badE (R.targetsS ts mR.2) num pth mR.1 (by rw [b3]; exact hb)).trans b3) ((still_targets _ _).trans (still_ruleE _ _ _ _ _)) (fun s2 q2 => ?_)
  rcases targets_res hok s2 with hr | hl
  · generalize R.targetsS ts mR.2 = tR at *
    generalize P.targetsS l mP.2 = tP at *
    refine Res.bind hr (fun hb => badE tR num pth mR.1 hb) (still_ruleE _ _ _ _ _) (fun s3 q3 => ?_)
    exact (ruleE_res s3 num pth mR.1 mP.1 q2.1 q3.1.symm).mono (fun q => ⟨q.1, by have := q2.2; have := q3.2; have := q.2; omega⟩)
  · exact Or.inr (ruleE_lost hl num pth mR.1 mP.1)


theorem hostName_res {l : List UInt8} {ts : List R.Tok} {st : R.St} {p : P.St} (h : Sim l ts st p) (names : List (List UInt8)) :
    Res l ts ((P.hostNameS l p names).1 = (R.hsA2 ts st names).1 ∧ p.tok.at_ < (P.hostNameS l p names).2.tok.at_) (R.hsA2 ts st names).2 (P.hostNameS l p names).2 := by
  unfold P.hostNameS R.hsA2 P.isHost
  simp only
  rw [among_eq]
  rcases str_res h with ⟨h1, q2, q3⟩ | d
  · rw [q2, h.tok.1.place]
    rw [h.tok.1.place] at q3
    have r1 := Res.note (Or.inl ⟨h1, trivial⟩ : Res l ts True _ _) (R.named (R.cur ts st).s true) 4 (R.cur ts st).at_ (fun _ _ => ⟨noted_over (noted_past h 4) _ _, by omega⟩)
    have r2 := Res.note r1 (!names.any fun n => decide (n = R.lower (R.cur ts st).s)) 5 (R.cur ts st).at_ (fun _ q => ⟨q.2 5 (by decide), by rw [noteIf_tok]; omega⟩)
    rw [Bool.not_not] at r2
    refine r2.mono (fun _ => ⟨rfl, ?_⟩)
    rw [noteIf_tok, noteIf_tok]; omega
  · right; rw [R.notS_bad (by rw [R.notS_bad d.bad]; exact d.bad), R.notS_bad d.bad]; exact dead_note (dead_note d _ _ _) _ _ _
theorem still_hostName (l : List UInt8) (p : P.St) (o : List (List UInt8)) : Still p (P.hostNameS l p o).2 := ((still_str _ _).trans (still_note _ _ _ _)).trans (still_note _ _ _ _)

theorem rl_numbers {a : List R.Rl} {b : List P.Rl} (h : All2 RlSim a b) : a.map R.Rl.number = b.map P.Rl.number := by
  induction h with
  | nil => rfl
  | cons h _ ih => rw [List.map_cons, List.map_cons, ih, h.1]; rfl
theorem still_rlLoop (l : List UInt8) (n : Nat) (p : P.St) (acc : List P.Rl) : Still p (P.rlLoop l n p acc).2 := by
  intro hb
  cases n
  · exact ⟨hb, rfl⟩
  · rw [P.rlLoop, sees_broken hb]; exact ⟨hb, rfl⟩
theorem rlLoop_res {l : List UInt8} {ts : List R.Tok} (hok : R.Ok ts) : ∀ (n m : Nat) {st : R.St} {p : P.St} (accR : List R.Rl) (accP : List P.Rl), Sim l ts st p → All2 RlSim accR accP → ts.length < n + st.K → l.length < m + p.tok.at_ →
    Res l ts (All2 RlSim (R.rlLoop ts n st accR).1 (P.rlLoop l m p accP).1 ∧ p.tok.at_ ≤ (P.rlLoop l m p accP).2.tok.at_) (R.rlLoop ts n st accR).2 (P.rlLoop l m p accP).2 := by
  intro n
  induction n with
  | zero => intro m st p accR accP h _ hn _; have := h.tok.2; omega
  | succ n ih =>
    intro m st p accR accP h ha hn hm
    match m, hm with
    | 0, hm => have := h.atLe; omega
    | m + 1, hm =>
      obtain ⟨_, e2, _⟩ := sees_eq h hdRule
      rw [R.rlLoop, P.rlLoop, e2]
      cases hgo : R.isB st (R.cur ts st) R.wRule
      · simp only [Bool.false_eq_true, if_false]
        exact Or.inl ⟨h, ha, Nat.le_refl _⟩
      · simp only [if_true]
        have hK := R.ruleS_K ts st accR.length (accR.map R.Rl.number) hgo
        have hr := rule_res hok h (accP.map P.Rl.number)
        rw [List.length_map, ← ha.len, ← rl_numbers ha] at hr
        rw [← rl_numbers ha]
        rcases hr with ⟨s1, q1, q2⟩ | d
        · exact (ih m _ _ s1 (ha.snoc q1) (by omega) (by omega)).mono (fun q => ⟨q.1, by have := q.2; omega⟩)
        · right
          rw [R.rlLoop_bad d.bad]
          have hs := still_rlLoop l m _ (accP ++ [(P.ruleS l p (accR.map R.Rl.number)).1]) d.broken
          exact ⟨d.bad, hs.1, by rw [hs.2]; exact d.place⟩

/-- A host says the same. -/
def HstSim (a : R.Hst) (b : P.Hst) : Prop := a.name = b.name ∧ All2 RlSim a.rules b.rules
theorem hst_names {a : List R.Hst} {b : List P.Hst} (h : All2 HstSim a b) : a.map R.Hst.name = b.map P.Hst.name := by
  induction h with
  | nil => rfl
  | cons h _ ih => rw [List.map_cons, List.map_cons, ih, h.1]
theorem still_host (l : List UInt8) (p : P.St) (o : List (List UInt8)) : Still p (P.hostS l p o).2 :=
  ((((still_more _ _ _ _ _).trans (still_hostName _ _ _)).trans (still_take _ _ _)).trans (still_rlLoop _ _ _ _)).trans (still_take _ _ _)
theorem host_res {l : List UInt8} {ts : List R.Tok} {st : R.St} {p : P.St} (hok : R.Ok ts) (h : Sim l ts st p) (names : List (List UInt8)) :
    Res l ts (HstSim (R.hostS ts st names).1 (P.hostS l p names).1 ∧ p.tok.at_ < (P.hostS l p names).2.tok.at_) (R.hostS ts st names).2 (P.hostS l p names).2 := by
  unfold R.hostS P.hostS
  have rA : Res l ts ((P.hsA l p names).1 = (R.hsA ts st names).1 ∧ p.tok.at_ < (P.hsA l p names).2.tok.at_) (R.hsA ts st names).2 (P.hsA l p names).2 := by
    unfold P.hsA R.hsA
    refine Res.bind (more_res h R.wHost hdHost names.length 4) (fun hb => by unfold R.hsA2; simp only; rw [R.kindS_bad hb, R.notS_bad hb, R.among_bad hb]) (still_hostName _ _ _) (fun s1 q1 => ?_)
    exact (hostName_res s1 names).mono (fun q => ⟨q.1, by have := q1.1; have := q.2; omega⟩)
  refine Res.bind rA (fun hb => R.hsB_bad hb) (((still_take _ _ _).trans (still_rlLoop _ _ _ _)).trans (still_take _ _ _)) (fun s1 q1 => ?_)
  unfold R.hsB P.hsB
  simp only
  refine Res.bind (take_res s1 hd123) (fun hb => by rw [R.rlLoop_bad hb, R.needS_bad hb]) ((still_rlLoop _ _ _ _).trans (still_take _ _ _)) (fun s2 q2 => ?_)
  refine Res.bind (rlLoop_res hok (ts.length + 1) (l.length + 1) [] [] s2 .nil (by omega) (by omega)) (fun hb => R.needS_bad hb) (still_take _ _ _) (fun s3 q3 => ?_)
  exact (take_res s3 hd125).mono (fun q => ⟨⟨q1.1.symm, q3.1⟩, by have := q1.2; have := q2.1; have := q3.2; have := q.1; omega⟩)

/-- The end of a text. -/
theorem hs_res {l : List UInt8} {ts : List R.Tok} (hok : R.Ok ts) : ∀ (n m : Nat) {st : R.St} {p : P.St} (accR : List R.Hst) (accP : List P.Hst), Sim l ts st p → All2 HstSim accR accP → ts.length + 1 < n + st.K → l.length < m + p.tok.at_ →
    ((R.hsLoop ts n st accR).2.bad < 0 ∧ (P.endS l (P.hsLoop l m p accP).2).broken = false ∧ (P.endS l (P.hsLoop l m p accP).2).err = (R.hsLoop ts n st accR).2.E ∧ ((R.hsLoop ts n st accR).2.E ≠ 0 → (P.endS l (P.hsLoop l m p accP).2).fat = (R.hsLoop ts n st accR).2.at_) ∧ All2 HstSim (R.hsLoop ts n st accR).1 (P.hsLoop l m p accP).1) ∨
    Dead (R.hsLoop ts n st accR).2 (P.endS l (P.hsLoop l m p accP).2) := by
  intro n
  induction n with
  | zero => intro m st p accR accP h _ hn _; have := h.tok.2; omega
  | succ n ih =>
    intro m st p accR accP h ha hn hm
    match m, hm with
    | 0, hm => have := h.atLe; omega
    | m + 1, hm =>
      obtain ⟨_, e2, _⟩ := sees_eq h hdHost
      rw [P.hsLoop, e2, R.hsLoop]
      by_cases h0 : (R.cur ts st).k = 0
      · -- the end
        rw [if_neg (fun c => c.2 h0)]
        have hb : R.isB st (R.cur ts st) R.wHost = false := by unfold R.isB; rw [h0]; simp
        rw [hb]
        simp only [Bool.false_eq_true, if_false]
        left
        have hk : p.tok.k = 0 := by
          cases h.tok.1 with
          | fin _ k j => exact j
          | word _ k j => omega
          | num _ k j => omega
          | str _ k j => omega
          | sign _ k j => omega
          | wrong _ k j => omega
        have he : P.endS l p = P.lookS l p (p.tok.at_ + p.tok.raw.length) := by
          unfold P.endS P.passS; rw [hk, if_pos ⟨rfl, h.nk⟩]
        rw [he]
        exact ⟨h.nb, h.nk, h.err, h.fat, ha⟩
      · rw [if_pos ⟨h.nb, h0⟩]
        cases hgo : R.isB st (R.cur ts st) R.wHost
        · -- no host
          simp only [Bool.false_eq_true, if_false]
          right
          have hneed : (R.needS ts st R.wHost).bad = (R.cur ts st).at_ := R.needS_no h.nb hgo
          have hbad : 0 ≤ (R.needS ts st R.wHost).bad := by rw [hneed]; exact Int.natCast_nonneg _
          have hh : (R.hostS ts st (accR.map R.Hst.name)).2 = R.needS ts st R.wHost := by
            unfold R.hostS
            have := R.hsA_bad (ts := ts) (st := st) (l := accR.map R.Hst.name) hbad
            rw [R.hsB_bad (by rw [this]; exact hbad), this]
          have hloop : ∀ k acc, (R.hsLoop ts k (R.needS ts st R.wHost) acc).2 = R.needS ts st R.wHost := by
            intro k acc; cases k
            · rfl
            · rw [R.hsLoop, if_neg (fun c => by have := c.1; omega)]
          rw [hh, hloop]
          have hk : ¬ p.tok.k = 0 := by
            cases h.tok.1 with
            | fin _ k j => exact absurd k h0
            | word _ k j => omega
            | num _ k j => omega
            | str _ k j => omega
            | sign _ k j => omega
            | wrong _ k j => omega
          have he : P.endS l p = { p with broken := true } := by
            unfold P.endS P.passS; rw [if_neg (fun c => hk (by simpa using c.1))]
          rw [he]
          exact ⟨hbad, rfl, by rw [hneed]; show (p.tok.at_ : Int) = _; rw [h.tok.1.place]⟩
        · simp only [if_true]
          have hr := host_res hok h (accP.map P.Hst.name)
          rw [← hst_names ha] at hr ⊢
          rcases hr with ⟨s1, q1, q2⟩ | d
          · have hg := R.hostS_go ts st (accR.map R.Hst.name) h.nb s1.nb
            exact ih m _ _ s1 (ha.snoc q1) (by omega) (by omega)
          · right
            have hloop : ∀ k acc, (R.hsLoop ts k (R.hostS ts st (accR.map R.Hst.name)).2 acc).2 = (R.hostS ts st (accR.map R.Hst.name)).2 := by
              intro k acc; cases k
              · rfl
              · rw [R.hsLoop, if_neg (fun c => by have := c.1; have := d.bad; omega)]
            have hl2 : ∀ k acc, (P.hsLoop l k (P.hostS l p (accR.map R.Hst.name)).2 acc).2 = (P.hostS l p (accR.map R.Hst.name)).2 := by
              intro k acc; cases k
              · rfl
              · rw [P.hsLoop, sees_broken d.broken]; rfl
            rw [hloop, hl2]
            have hs := still_pass l (P.hostS l p (accR.map R.Hst.name)).2 ((P.hostS l p (accR.map R.Hst.name)).2.tok.k == 0) d.broken
            exact ⟨d.bad, hs.1, by rw [show (P.endS l (P.hostS l p (accR.map R.Hst.name)).2).tok = (P.hostS l p (accR.map R.Hst.name)).2.tok from hs.2]; exact d.place⟩

theorem read_res (l : List UInt8) (hl : l.length ≤ 3000) :
    ((R.readS l).2.bad < 0 ∧ (P.readS l).2.broken = false ∧ (P.readS l).2.err = (R.readS l).2.E ∧ ((R.readS l).2.E ≠ 0 → (P.readS l).2.fat = (R.readS l).2.at_) ∧ All2 HstSim (R.readS l).1 (P.readS l).1) ∨ Dead (R.readS l).2 (P.readS l).2 := by
  obtain ⟨hok, hpos⟩ := R.toks_ok l hl
  unfold R.readS P.readS
  simp only
  refine hs_res hok ((R.toks l).length + 2) (l.length + 1) [] [] ⟨by show (-1 : Int) < 0; decide, rfl, ⟨l.length + 1, 0, by omega, by omega, rfl, rfl⟩, rfl, fun h => absurd rfl h, fun h => absurd rfl h⟩ .nil (by omega) (by omega)
end Go.Proofs.YtfocdefchbnkpaaGreatDoor
