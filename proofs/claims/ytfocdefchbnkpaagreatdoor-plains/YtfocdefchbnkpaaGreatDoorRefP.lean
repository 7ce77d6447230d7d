/- The whole text, host by host, as the document's own reader goes through it: plain facts about the twins. -/
import Derived.Test.YtfocdefchbnkpaaGreatDoorRefK
namespace Go.Proofs.YtfocdefchbnkpaaGreatDoor
open Go.RowKit
namespace R

theorem overS_bad {t : Tok} {st : St} {ok : Bool} (h : 0 ≤ st.bad) : overS t st ok = st := by unfold overS; rw [if_pos h]
theorem needS_bad {ts : List Tok} {st : St} {s : List UInt8} (h : 0 ≤ st.bad) : needS ts st s = st := overS_bad h
theorem kindS_bad {ts : List Tok} {st : St} {k : Int} (h : 0 ≤ st.bad) : kindS ts st k = st := overS_bad h
theorem notS_bad {st : St} {ok : Bool} {e a : Int} (h : 0 ≤ st.bad) : notS st ok e a = st := by
  unfold notS; rw [if_neg]; intro c; omega
theorem isB_bad {st : St} {t : Tok} {s : List UInt8} (h : 0 ≤ st.bad) : isB st t s = false := by
  unfold isB; rw [decide_eq_false (by omega)]; rfl
theorem pathS_bad {ts : List Tok} {st : St} (h : 0 ≤ st.bad) : (pathS ts st).2 = st := by
  unfold pathS; simp only; rw [kindS_bad h, notS_bad h]
theorem valueS_bad {ts : List Tok} {st : St} (h : 0 ≤ st.bad) : (valueS ts st).2 = st := by
  unfold valueS; simp only; rw [needS_bad h, kindS_bad h, notS_bad h]
theorem among_bad {l : List (List UInt8)} {s : List UInt8} {p : Int} {st : St} (h : 0 ≤ st.bad) : among l s p st = st := by
  unfold among
  induction l with
  | nil => rfl
  | cons a l ih => rw [List.foldl_cons, notS_bad h]; exact ih
theorem amongN_bad {l : List Int} {n p : Int} {st : St} (h : 0 ≤ st.bad) : amongN l n p st = st := by
  unfold amongN
  induction l with
  | nil => rfl
  | cons a l ih => rw [List.foldl_cons, notS_bad h]; exact ih
theorem headerS_bad {ts : List Tok} {st : St} {l : List (List UInt8)} (h : 0 ≤ st.bad) : (headerS ts st l).2 = st := by
  unfold headerS; simp only; rw [kindS_bad h, notS_bad h, among_bad h]
theorem mtLoop_bad {ts : List Tok} {n : Nat} {st : St} {acc : List Mt} (h : 0 ≤ st.bad) : mtLoop ts n st acc = (acc, st) := by
  cases n with
  | zero => rfl
  | succ n => unfold mtLoop; rw [isB_bad h]; rfl
theorem tgLoop_bad {ts : List Tok} {n i : Nat} {st : St} {acc : List (List UInt8 × Int)} (h : 0 ≤ st.bad) : tgLoop ts n st i acc = (acc, st) := by
  cases n with
  | zero => rfl
  | succ n => unfold tgLoop; rw [if_neg (by omega)]
theorem targetsS_bad {ts : List Tok} {st : St} (h : 0 ≤ st.bad) : (targetsS ts st).2 = st := by
  unfold targetsS; simp only; rw [needS_bad h, notS_bad h, tgLoop_bad h]; simp only; rw [needS_bad h]
theorem stLoop_bad {ts : List Tok} {n : Nat} {st : St} {acc : List (List UInt8 × List UInt8)} (h : 0 ≤ st.bad) : stLoop ts n st acc = (acc, st) := by
  cases n with
  | zero => rfl
  | succ n => unfold stLoop; rw [isB_bad h]; rfl
theorem dpLoop_bad {ts : List Tok} {sets : List (List UInt8)} {n : Nat} {st : St} {acc : List (List UInt8)} (h : 0 ≤ st.bad) : dpLoop ts sets n st acc = (acc, st) := by
  cases n with
  | zero => rfl
  | succ n => unfold dpLoop; rw [isB_bad h]; rfl
theorem editsS_bad {ts : List Tok} {st : St} (h : 0 ≤ st.bad) : (editsS ts st).2 = st := by
  unfold editsS; simp only; rw [stLoop_bad h]; simp only; rw [dpLoop_bad h]
theorem rlB_bad {ts : List Tok} {st : St} (h : 0 ≤ st.bad) : (rlB ts st).2 = st := by
  unfold rlB; simp only; rw [needS_bad h, needS_bad h, pathS_bad h, needS_bad h]
theorem rlC_bad {ts : List Tok} {st : St} (h : 0 ≤ st.bad) : (rlC ts st).2 = st := by
  unfold rlC; rw [isB_bad h]; rfl
theorem rlA_bad {ts : List Tok} {st : St} {i : Nat} {l : List Int} (h : 0 ≤ st.bad) : (rlA ts st i l).2 = st := by
  unfold rlA rlA2; simp only; rw [needS_bad h, notS_bad h, kindS_bad h, notS_bad h, amongN_bad h]
theorem ruleS_bad {ts : List Tok} {st : St} {i : Nat} {l : List Int} (h : 0 ≤ st.bad) : (ruleS ts st i l).2 = st := by
  unfold ruleS ruleT ruleE matchesS; simp only
  rw [rlA_bad h, rlB_bad h, mtLoop_bad h]; simp only
  rw [targetsS_bad h, rlC_bad h, editsS_bad h, needS_bad h]
theorem rlLoop_bad {ts : List Tok} {n : Nat} {st : St} {acc : List Rl} (h : 0 ≤ st.bad) : rlLoop ts n st acc = (acc, st) := by
  cases n with
  | zero => rfl
  | succ n => unfold rlLoop; rw [isB_bad h]; rfl
theorem rlLoop_K (ts : List Tok) (n : Nat) : ∀ (st : St) (acc : List Rl), st.K ≤ (rlLoop ts n st acc).2.K := by
  induction n with
  | zero => intro st acc; exact Nat.le_refl _
  | succ n ih =>
    intro st acc; unfold rlLoop; split
    · rename_i h
      have h1 := ruleS_K ts st acc.length (acc.map Rl.number) h
      have h2 := ih (ruleS ts st acc.length (acc.map Rl.number)).2 (acc ++ [(ruleS ts st acc.length (acc.map Rl.number)).1])
      omega
    · exact Nat.le_refl _
theorem hsA_K (ts : List Tok) (st : St) (l : List (List UInt8)) : (needS ts st wHost).K ≤ (hsA ts st l).2.K := by
  unfold hsA hsA2; simp only [among_K, notS_K]
  have := kindS_K ts (notS (needS ts st wHost) (decide ((l.length : Int) < 4)) 3 (cur ts st).at_) 34
  rwa [notS_K] at this
theorem hsB_K (ts : List Tok) (a : List UInt8 × St) : a.2.K ≤ (hsB ts a).2.K := by
  unfold hsB; simp only
  exact Nat.le_trans (Nat.le_trans (needS_K _ _ _) (rlLoop_K _ _ _ _)) (needS_K _ _ _)
theorem hsA_bad {ts : List Tok} {st : St} {l : List (List UInt8)} (h : 0 ≤ (needS ts st wHost).bad) : (hsA ts st l).2 = needS ts st wHost := by
  unfold hsA hsA2; simp only
  rw [notS_bad h, kindS_bad h, notS_bad h, among_bad h]
theorem hsB_bad {ts : List Tok} {a : List UInt8 × St} (h : 0 ≤ a.2.bad) : (hsB ts a).2 = a.2 := by
  unfold hsB; simp only
  rw [needS_bad h, rlLoop_bad h]; simp only; rw [needS_bad h]
theorem hostS_K (ts : List Tok) (st : St) (l : List (List UInt8)) : st.K ≤ (hostS ts st l).2.K := by
  unfold hostS
  exact Nat.le_trans (Nat.le_trans (needS_K _ _ _) (hsA_K ts st l)) (hsB_K _ _)
theorem needS_no {ts : List Tok} {st : St} {s : List UInt8} (hb : st.bad < 0) (h : isB st (cur ts st) s = false) : (needS ts st s).bad = (cur ts st).at_ := by
  unfold needS overS; rw [if_neg (by omega), h]; rfl
/-- A host that was read to its end has taken at least one token. -/
theorem hostS_go (ts : List Tok) (st : St) (l : List (List UInt8)) (hb : st.bad < 0) (hg : (hostS ts st l).2.bad < 0) : st.K + 1 ≤ (hostS ts st l).2.K := by
  cases h : isB st (cur ts st) wHost with
  | true =>
    have h1 : (needS ts st wHost).K = st.K + 1 := by rw [needS_yes h]
    have h2 := hsA_K ts st l
    have h3 := hsB_K ts (hsA ts st l)
    unfold hostS; omega
  | false =>
    exfalso
    have h1 := needS_no hb h
    have h0 : 0 ≤ (needS ts st wHost).bad := by rw [h1]; omega
    unfold hostS at hg
    rw [hsB_bad (by rw [hsA_bad h0]; exact h0), hsA_bad h0] at hg
    omega

def hsLoop (ts : List Tok) : Nat → St → List Hst → List Hst × St
  | 0, st, acc => (acc, st)
  | n + 1, st, acc => if st.bad < 0 ∧ (cur ts st).k ≠ 0 then hsLoop ts n (hostS ts st (acc.map Hst.name)).2 (acc ++ [(hostS ts st (acc.map Hst.name)).1]) else (acc, st)
def st0 : St := ⟨0, -1, 0, 0⟩
def readS (l : List UInt8) : List Hst × St := hsLoop (toks l) ((toks l).length + 2) st0 []

end R
end Go.Proofs.YtfocdefchbnkpaaGreatDoor
