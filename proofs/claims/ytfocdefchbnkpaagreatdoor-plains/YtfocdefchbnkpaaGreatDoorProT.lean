/- What the program's reader makes of a text: the plain twins of its methods. -/
import Derived.Test.YtfocdefchbnkpaaGreatDoorProE1
import Derived.Test.YtfocdefchbnkpaaGreatDoorRefK
namespace Go.Proofs.YtfocdefchbnkpaaGreatDoor
open Go.RowKit

def P.isHost (s : List UInt8) : Bool := R.named s true
def P.hostNameS (l : List UInt8) (st : P.St) (names : List (List UInt8)) : List UInt8 × P.St :=
  (R.lower (P.strS l st).1,
   P.noteIf (P.noteIf (P.strS l st).2 (!P.isHost (P.strS l st).1) 4 st.tok.at_) (names.any fun n => decide (n = R.lower (P.strS l st).1)) 5 st.tok.at_)
def P.pathS (l : List UInt8) (st : P.St) (word : List UInt8) : List UInt8 × P.St :=
  ((P.strS l (P.takeS l st word)).1, P.takeS l (P.noteIf (P.strS l (P.takeS l st word)).2 (!R.path (P.strS l (P.takeS l st word)).1) 4 (P.takeS l st word).tok.at_) [59])
def P.headerS (l : List UInt8) (st : P.St) : List UInt8 × P.St :=
  (R.lower (P.strS l st).1, P.noteIf (P.strS l st).2 (!R.header (P.strS l st).1 true) 4 st.tok.at_)
def P.valueS (l : List UInt8) (st : P.St) : List UInt8 × P.St :=
  ((P.strS l (P.takeS l st [61])).1, P.noteIf (P.strS l (P.takeS l st [61])).2 (!R.value (P.strS l (P.takeS l st [61])).1) 4 (P.takeS l st [61]).tok.at_)

structure P.Mt where
  name : List UInt8
  ask : Bool
  val : List UInt8
def P.mtA (l : List UInt8) (st : P.St) (n : Nat) : List UInt8 × P.St := P.headerS l (P.takeS l (P.oneMore st n 3) R.wHeader)
def P.mtB (l : List UInt8) (st : P.St) : List UInt8 × P.St := if P.sees st [61] then P.valueS l st else ([], st)
def P.matchS (l : List UInt8) (st : P.St) (n : Nat) : P.Mt × P.St :=
  (⟨(P.mtA l st n).1, P.sees (P.mtA l st n).2 [61], (P.mtB l (P.mtA l st n).2).1⟩, P.takeS l (P.mtB l (P.mtA l st n).2).2 [59])
def P.targetA (l : List UInt8) (st : P.St) (n : Nat) : List UInt8 × P.St :=
  ((P.strS l (P.oneMore st n 4)).1, P.noteIf (P.strS l (P.oneMore st n 4)).2 (!R.upstream (P.strS l (P.oneMore st n 4)).1) 4 (P.oneMore st n 4).tok.at_)
def P.targetS (l : List UInt8) (st : P.St) (n : Nat) : (List UInt8 × Int) × P.St :=
  (((P.targetA l st n).1, (P.numS l (P.targetA l st n).2).1),
   P.noteIf (P.numS l (P.targetA l st n).2).2 (decide (1000 < (P.numS l (P.targetA l st n).2).1)) 4 (P.targetA l st n).2.tok.at_)
def P.tgLoop (l : List UInt8) : Nat → P.St → List (List UInt8 × Int) → List (List UInt8 × Int) × P.St
  | 0, st, acc => (acc, st)
  | n + 1, st, acc => if P.sees st [44] then P.tgLoop l n (P.targetS l (P.takeS l st [44]) acc.length).2 (acc ++ [(P.targetS l (P.takeS l st [44]) acc.length).1]) else (acc, st)
def P.wTo : List UInt8 := [116, 111]
def P.tgAll (l : List UInt8) (st : P.St) : List (List UInt8 × Int) × P.St :=
  P.tgLoop l (l.length + 1) (P.targetS l (P.takeS l st P.wTo) 0).2 [(P.targetS l (P.takeS l st P.wTo) 0).1]
def P.targetsS (l : List UInt8) (st : P.St) : List (List UInt8 × Int) × P.St :=
  ((P.tgAll l st).1.filter fun t => !(t.2 == 0),
   P.noteIf (P.takeS l (P.tgAll l st).2 [59]) (((P.tgAll l st).1.filter fun t => !(t.2 == 0)).isEmpty) 4 st.tok.at_)

structure P.Rl where
  number : Int
  path : List UInt8
  ms : List P.Mt
  tg : List (List UInt8 × Int)
  rep : List UInt8
  sets : List (List UInt8 × List UInt8)
  drops : List (List UInt8)
structure P.Hst where
  name : List UInt8
  rules : List P.Rl

def P.editedS (l : List UInt8) (st : P.St) (am : List (List UInt8)) : List UInt8 × P.St :=
  ((P.headerS l st).1, P.noteIf (P.headerS l st).2 (am.any fun n => decide (n = (P.headerS l st).1)) 5 st.tok.at_)
def P.setA (l : List UInt8) (st : P.St) (n : Nat) (am : List (List UInt8)) : List UInt8 × P.St := P.editedS l (P.takeS l (P.oneMore st n 3) R.wSet) am
def P.setS (l : List UInt8) (st : P.St) (n : Nat) (am : List (List UInt8)) : (List UInt8 × List UInt8) × P.St :=
  (((P.setA l st n am).1, (P.valueS l (P.setA l st n am).2).1), P.takeS l (P.valueS l (P.setA l st n am).2).2 [59])
def P.dropA (l : List UInt8) (st : P.St) (n : Nat) (am : List (List UInt8)) : List UInt8 × P.St := P.editedS l (P.takeS l (P.oneMore st n 3) R.wDrop) am
def P.dropS (l : List UInt8) (st : P.St) (n : Nat) (am : List (List UInt8)) : List UInt8 × P.St := ((P.dropA l st n am).1, P.takeS l (P.dropA l st n am).2 [59])

def P.mtLoop (l : List UInt8) : Nat → P.St → List P.Mt → List P.Mt × P.St
  | 0, st, acc => (acc, st)
  | n + 1, st, acc => if P.sees st R.wHeader then P.mtLoop l n (P.matchS l st acc.length).2 (acc ++ [(P.matchS l st acc.length).1]) else (acc, st)
def P.stLoop (l : List UInt8) : Nat → P.St → List (List UInt8 × List UInt8) → List (List UInt8 × List UInt8) × P.St
  | 0, st, acc => (acc, st)
  | n + 1, st, acc => if P.sees st R.wSet then P.stLoop l n (P.setS l st acc.length (acc.map Prod.fst)).2 (acc ++ [(P.setS l st acc.length (acc.map Prod.fst)).1]) else (acc, st)
def P.dpLoop (l : List UInt8) (sets : List (List UInt8)) : Nat → P.St → List (List UInt8) → List (List UInt8) × P.St
  | 0, st, acc => (acc, st)
  | n + 1, st, acc => if P.sees st R.wDrop then P.dpLoop l sets n (P.dropS l st acc.length (sets ++ acc)).2 (acc ++ [(P.dropS l st acc.length (sets ++ acc)).1]) else (acc, st)

def P.ruleNoS (l : List UInt8) (st : P.St) (others : List Int) : Int × P.St :=
  ((P.numS l st).1, P.noteIf (P.noteIf (P.numS l st).2 (decide (65535 < (P.numS l st).1)) 4 st.tok.at_) (others.any fun n => decide (n = (P.numS l st).1)) 5 st.tok.at_)
def P.rlA (l : List UInt8) (st : P.St) (others : List Int) : Int × P.St := P.ruleNoS l (P.takeS l (P.oneMore st others.length 6) R.wRule) others
def P.rlB (l : List UInt8) (st : P.St) : List UInt8 × P.St := P.pathS l (P.takeS l st [123]) R.wPath
def P.rlC (l : List UInt8) (st : P.St) : List UInt8 × P.St := if P.sees st R.wReplace then P.pathS l st R.wReplace else ([], st)
def P.ruleF (l : List UInt8) (n : Int) (p : List UInt8) (m : List P.Mt) (t : List (List UInt8 × Int)) (c : List UInt8 × P.St) (s : List (List UInt8 × List UInt8) × P.St) : P.Rl × P.St :=
  (⟨n, p, m, t, c.1, s.1, (P.dpLoop l (s.1.map Prod.fst) (l.length + 1) s.2 []).1⟩, P.takeS l (P.dpLoop l (s.1.map Prod.fst) (l.length + 1) s.2 []).2 [125])
def P.ruleE (l : List UInt8) (n : Int) (p : List UInt8) (m : List P.Mt) (t : List (List UInt8 × Int) × P.St) : P.Rl × P.St :=
  P.ruleF l n p m t.1 (P.rlC l t.2) (P.stLoop l (l.length + 1) (P.rlC l t.2).2 [])
def P.ruleD (l : List UInt8) (n : Int) (p : List UInt8) (m : List P.Mt × P.St) : P.Rl × P.St := P.ruleE l n p m.1 (P.targetsS l m.2)
def P.ruleT (l : List UInt8) (a : Int × P.St) : P.Rl × P.St := P.ruleD l a.1 (P.rlB l a.2).1 (P.mtLoop l (l.length + 1) (P.rlB l a.2).2 [])
def P.ruleS (l : List UInt8) (st : P.St) (others : List Int) : P.Rl × P.St := P.ruleT l (P.rlA l st others)
def P.rlLoop (l : List UInt8) : Nat → P.St → List P.Rl → List P.Rl × P.St
  | 0, st, acc => (acc, st)
  | n + 1, st, acc => if P.sees st R.wRule then P.rlLoop l n (P.ruleS l st (acc.map P.Rl.number)).2 (acc ++ [(P.ruleS l st (acc.map P.Rl.number)).1]) else (acc, st)
def P.hsA (l : List UInt8) (st : P.St) (names : List (List UInt8)) : List UInt8 × P.St := P.hostNameS l (P.takeS l (P.oneMore st names.length 4) R.wHost) names
def P.hsB (l : List UInt8) (a : List UInt8 × P.St) : P.Hst × P.St :=
  (⟨a.1, (P.rlLoop l (l.length + 1) (P.takeS l a.2 [123]) []).1⟩, P.takeS l (P.rlLoop l (l.length + 1) (P.takeS l a.2 [123]) []).2 [125])
def P.hostS (l : List UInt8) (st : P.St) (names : List (List UInt8)) : P.Hst × P.St := P.hsB l (P.hsA l st names)
def P.hsLoop (l : List UInt8) : Nat → P.St → List P.Hst → List P.Hst × P.St
  | 0, st, acc => (acc, st)
  | n + 1, st, acc => if P.sees st R.wHost then P.hsLoop l n (P.hostS l st (acc.map P.Hst.name)).2 (acc ++ [(P.hostS l st (acc.map P.Hst.name)).1]) else (acc, st)
def P.st0 (l : List UInt8) : P.St := ⟨P.tokenFrom l 0, false, 0, 0⟩
def P.readS (l : List UInt8) : List P.Hst × P.St := ((P.hsLoop l (l.length + 1) (P.st0 l) []).1, P.endS l (P.hsLoop l (l.length + 1) (P.st0 l) []).2)

end Go.Proofs.YtfocdefchbnkpaaGreatDoor

/- The program's reader goes forward. -/
namespace Go.Proofs.YtfocdefchbnkpaaGreatDoor
open Go.RowKit

theorem P.at_from (l : List UInt8) (p : Nat) : p ≤ (P.tokenFrom l p).at_ := by unfold P.tokenFrom P.placeFrom; simp
theorem P.at_pass (l : List UInt8) (st : P.St) (b : Bool) : st.tok.at_ ≤ (P.passS l st b).tok.at_ := by
  unfold P.passS; split
  · have := P.at_from l (st.tok.at_ + st.tok.raw.length)
    show st.tok.at_ ≤ (P.tokenFrom l (st.tok.at_ + st.tok.raw.length)).at_
    omega
  · exact Nat.le_refl _
theorem P.at_take (l : List UInt8) (st : P.St) (r : List UInt8) : st.tok.at_ ≤ (P.takeS l st r).tok.at_ := P.at_pass _ _ _
theorem P.at_sees (l : List UInt8) (st : P.St) (r : List UInt8) (h : P.sees st r = true) (hr : 1 ≤ r.length) : st.tok.at_ + 1 ≤ (P.takeS l st r).tok.at_ := by
  unfold P.sees at h
  simp only [Bool.and_eq_true, Bool.not_eq_true', decide_eq_true_eq] at h
  unfold P.takeS P.passS
  rw [if_pos ⟨decide_eq_true h.2, h.1⟩]
  have := P.at_from l (st.tok.at_ + st.tok.raw.length)
  show st.tok.at_ + 1 ≤ (P.tokenFrom l (st.tok.at_ + st.tok.raw.length)).at_
  rw [h.2] at this ⊢
  omega
theorem P.note_tok (st : P.St) (b : Bool) (e a : Int) : (P.noteIf st b e a).tok = st.tok := by
  unfold P.noteIf P.noteS; split
  · split <;> rfl
  · rfl
theorem P.one_tok (st : P.St) (a b : Int) : (P.oneMore st a b).tok = st.tok := P.note_tok _ _ _ _
theorem P.at_str (l : List UInt8) (st : P.St) : st.tok.at_ ≤ (P.strS l st).2.tok.at_ := P.at_pass _ _ _
theorem P.at_num (l : List UInt8) (st : P.St) : st.tok.at_ ≤ (P.numS l st).2.tok.at_ := P.at_pass _ _ _
theorem P.at_header (l : List UInt8) (st : P.St) : st.tok.at_ ≤ (P.headerS l st).2.tok.at_ := by unfold P.headerS; simp only [P.note_tok]; exact P.at_str _ _
theorem P.at_value (l : List UInt8) (st : P.St) : st.tok.at_ ≤ (P.valueS l st).2.tok.at_ := by
  unfold P.valueS; simp only [P.note_tok]; exact Nat.le_trans (P.at_take _ _ _) (P.at_str _ _)
theorem P.at_path (l : List UInt8) (st : P.St) (w : List UInt8) : (P.takeS l st w).tok.at_ ≤ (P.pathS l st w).2.tok.at_ := by
  unfold P.pathS; simp only
  refine Nat.le_trans ?_ (P.at_take _ _ _)
  rw [P.note_tok]; exact P.at_str _ _
theorem P.at_edited (l : List UInt8) (st : P.St) (am : List (List UInt8)) : st.tok.at_ ≤ (P.editedS l st am).2.tok.at_ := by unfold P.editedS; simp only [P.note_tok]; exact P.at_header _ _
theorem P.at_target (l : List UInt8) (st : P.St) (n : Nat) : st.tok.at_ ≤ (P.targetS l st n).2.tok.at_ := by
  unfold P.targetS; simp only [P.note_tok]
  refine Nat.le_trans ?_ (P.at_num _ _)
  unfold P.targetA; simp only [P.note_tok]
  have := P.at_str l (P.oneMore st n 4)
  rwa [P.one_tok] at this
theorem P.sees_one {st : P.St} {r : List UInt8} {a b : Int} (h : P.sees st r = true) : P.sees (P.oneMore st a b) r = true := by
  have hb : (P.oneMore st a b).broken = st.broken := by unfold P.oneMore P.noteIf P.noteS; split; split <;> rfl; rfl
  unfold P.sees at h ⊢; rw [P.one_tok, hb]; exact h
theorem P.at_match (l : List UInt8) (st : P.St) (n : Nat) (h : P.sees st R.wHeader = true) : st.tok.at_ + 1 ≤ (P.matchS l st n).2.tok.at_ := by
  unfold P.matchS; simp only
  refine Nat.le_trans ?_ (P.at_take _ _ _)
  have h1 := P.at_sees l (P.oneMore st n 3) R.wHeader (P.sees_one h) (by decide)
  rw [P.one_tok] at h1
  have h2 : (P.takeS l (P.oneMore st n 3) R.wHeader).tok.at_ ≤ (P.mtA l st n).2.tok.at_ := P.at_header _ _
  have h3 : (P.mtA l st n).2.tok.at_ ≤ (P.mtB l (P.mtA l st n).2).2.tok.at_ := by
    unfold P.mtB; split
    · exact P.at_value _ _
    · exact Nat.le_refl _
  omega
theorem P.at_set (l : List UInt8) (st : P.St) (n : Nat) (am : List (List UInt8)) (h : P.sees st R.wSet = true) : st.tok.at_ + 1 ≤ (P.setS l st n am).2.tok.at_ := by
  unfold P.setS; simp only
  refine Nat.le_trans ?_ (P.at_take _ _ _)
  have h1 := P.at_sees l (P.oneMore st n 3) R.wSet (P.sees_one h) (by decide)
  rw [P.one_tok] at h1
  have h2 : (P.takeS l (P.oneMore st n 3) R.wSet).tok.at_ ≤ (P.setA l st n am).2.tok.at_ := P.at_edited _ _ _
  have h3 := P.at_value l (P.setA l st n am).2
  omega
theorem P.at_drop (l : List UInt8) (st : P.St) (n : Nat) (am : List (List UInt8)) (h : P.sees st R.wDrop = true) : st.tok.at_ + 1 ≤ (P.dropS l st n am).2.tok.at_ := by
  unfold P.dropS; simp only
  refine Nat.le_trans ?_ (P.at_take _ _ _)
  have h1 := P.at_sees l (P.oneMore st n 3) R.wDrop (P.sees_one h) (by decide)
  rw [P.one_tok] at h1
  have h2 : (P.takeS l (P.oneMore st n 3) R.wDrop).tok.at_ ≤ (P.dropA l st n am).2.tok.at_ := P.at_edited _ _ _
  omega
theorem P.at_mtLoop (l : List UInt8) (n : Nat) : ∀ (st : P.St) (acc : List P.Mt), st.tok.at_ ≤ (P.mtLoop l n st acc).2.tok.at_ := by
  induction n with
  | zero => intro st acc; exact Nat.le_refl _
  | succ n ih => intro st acc; rw [P.mtLoop]; split
                 · rename_i h; have := P.at_match l st acc.length h; have := ih (P.matchS l st acc.length).2 (acc ++ [(P.matchS l st acc.length).1]); omega
                 · exact Nat.le_refl _
theorem P.at_stLoop (l : List UInt8) (n : Nat) : ∀ (st : P.St) (acc : List (List UInt8 × List UInt8)), st.tok.at_ ≤ (P.stLoop l n st acc).2.tok.at_ := by
  induction n with
  | zero => intro st acc; exact Nat.le_refl _
  | succ n ih => intro st acc; rw [P.stLoop]; split
                 · rename_i h; have := P.at_set l st acc.length (acc.map Prod.fst) h; have := ih (P.setS l st acc.length (acc.map Prod.fst)).2 (acc ++ [(P.setS l st acc.length (acc.map Prod.fst)).1]); omega
                 · exact Nat.le_refl _
theorem P.at_dpLoop (l : List UInt8) (sets : List (List UInt8)) (n : Nat) : ∀ (st : P.St) (acc : List (List UInt8)), st.tok.at_ ≤ (P.dpLoop l sets n st acc).2.tok.at_ := by
  induction n with
  | zero => intro st acc; exact Nat.le_refl _
  | succ n ih => intro st acc; rw [P.dpLoop]; split
                 · rename_i h; have := P.at_drop l st acc.length (sets ++ acc) h; have := ih (P.dropS l st acc.length (sets ++ acc)).2 (acc ++ [(P.dropS l st acc.length (sets ++ acc)).1]); omega
                 · exact Nat.le_refl _
theorem P.at_tgLoop (l : List UInt8) (n : Nat) : ∀ (st : P.St) (acc : List (List UInt8 × Int)), st.tok.at_ ≤ (P.tgLoop l n st acc).2.tok.at_ := by
  induction n with
  | zero => intro st acc; exact Nat.le_refl _
  | succ n ih => intro st acc; rw [P.tgLoop]; split
                 · have := P.at_take l st [44]; have := P.at_target l (P.takeS l st [44]) acc.length; have := ih (P.targetS l (P.takeS l st [44]) acc.length).2 (acc ++ [(P.targetS l (P.takeS l st [44]) acc.length).1]); omega
                 · exact Nat.le_refl _
theorem P.at_targets (l : List UInt8) (st : P.St) : st.tok.at_ ≤ (P.targetsS l st).2.tok.at_ := by
  unfold P.targetsS; simp only [P.note_tok]
  refine Nat.le_trans ?_ (P.at_take _ _ _)
  unfold P.tgAll
  exact Nat.le_trans (Nat.le_trans (P.at_take _ _ _) (P.at_target _ _ _)) (P.at_tgLoop _ _ _ _)
theorem P.at_rlC (l : List UInt8) (st : P.St) : st.tok.at_ ≤ (P.rlC l st).2.tok.at_ := by
  unfold P.rlC; split
  · exact Nat.le_trans (P.at_take _ _ _) (P.at_path _ _ _)
  · exact Nat.le_refl _
theorem P.at_rule (l : List UInt8) (st : P.St) (o : List Int) (h : P.sees st R.wRule = true) : st.tok.at_ + 1 ≤ (P.ruleS l st o).2.tok.at_ := by
  have h1 := P.at_sees l (P.oneMore st o.length 6) R.wRule (P.sees_one h) (by decide)
  rw [P.one_tok] at h1
  have h2 : (P.takeS l (P.oneMore st o.length 6) R.wRule).tok.at_ ≤ (P.rlA l st o).2.tok.at_ := by
    unfold P.rlA P.ruleNoS; simp only [P.note_tok]; exact P.at_num _ _
  have h3 : (P.rlA l st o).2.tok.at_ ≤ (P.rlB l (P.rlA l st o).2).2.tok.at_ := by
    unfold P.rlB; exact Nat.le_trans (Nat.le_trans (P.at_take _ _ _) (P.at_take _ _ _)) (P.at_path _ _ _)
  have h4 := P.at_mtLoop l (l.length + 1) (P.rlB l (P.rlA l st o).2).2 []
  unfold P.ruleS P.ruleT P.ruleD P.ruleE P.ruleF
  simp only
  refine Nat.le_trans ?_ (P.at_take _ _ _)
  refine Nat.le_trans ?_ (P.at_dpLoop _ _ _ _ _)
  refine Nat.le_trans ?_ (P.at_stLoop _ _ _ _)
  refine Nat.le_trans ?_ (P.at_rlC _ _)
  refine Nat.le_trans ?_ (P.at_targets _ _)
  omega
theorem P.at_rlLoop (l : List UInt8) (n : Nat) : ∀ (st : P.St) (acc : List P.Rl), st.tok.at_ ≤ (P.rlLoop l n st acc).2.tok.at_ := by
  induction n with
  | zero => intro st acc; exact Nat.le_refl _
  | succ n ih => intro st acc; rw [P.rlLoop]; split
                 · rename_i h; have := P.at_rule l st (acc.map P.Rl.number) h; have := ih (P.ruleS l st (acc.map P.Rl.number)).2 (acc ++ [(P.ruleS l st (acc.map P.Rl.number)).1]); omega
                 · exact Nat.le_refl _
theorem P.at_host (l : List UInt8) (st : P.St) (o : List (List UInt8)) (h : P.sees st R.wHost = true) : st.tok.at_ + 1 ≤ (P.hostS l st o).2.tok.at_ := by
  have h1 := P.at_sees l (P.oneMore st o.length 4) R.wHost (P.sees_one h) (by decide)
  rw [P.one_tok] at h1
  have h2 : (P.takeS l (P.oneMore st o.length 4) R.wHost).tok.at_ ≤ (P.hsA l st o).2.tok.at_ := by
    unfold P.hsA P.hostNameS; simp only [P.note_tok]; exact P.at_str _ _
  unfold P.hostS P.hsB
  simp only
  refine Nat.le_trans ?_ (P.at_take _ _ _)
  refine Nat.le_trans ?_ (P.at_rlLoop _ _ _ _)
  refine Nat.le_trans ?_ (P.at_take _ _ _)
  omega

end Go.Proofs.YtfocdefchbnkpaaGreatDoor
