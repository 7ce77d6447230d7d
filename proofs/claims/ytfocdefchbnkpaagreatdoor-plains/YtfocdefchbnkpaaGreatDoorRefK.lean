/- A host, as the document's own reader reads it. -/
import Derived.Test.YtfocdefchbnkpaaGreatDoorRefJ
import Derived.Deep.RegionLaw
namespace Go.Proofs.YtfocdefchbnkpaaGreatDoor
open Go.RowKit

/-- The block that is written is no row of these types. -/
def Safe (w : World) (row : Option Nat) (l : List TypeId) : Prop := ∀ k c t f, row = some k → w.heap[k]? = some (.cells c t f) → t ∉ l
theorem safe_none (w : World) (l : List TypeId) : Safe w none l := by intro k c t f h; cases h
theorem safe_box {w : World} {b : Nat} {c : Array Value} {t : TypeId} {f : Nat × Nat} {l : List TypeId} (h : w.heap[b]? = some (.cells c t f)) (hn : t ∉ l) : Safe w (some b) l := by
  intro k c' t' f' hk h'
  cases hk
  rw [h] at h'
  simp only [Option.some.injEq, Obj.cells.injEq] at h'
  rw [← h'.2.1]; exact hn
theorem safe_row {w : World} {B : Nat} {e : TypeId} {s : Nat} {v : Value} {n : Nat} {xs : List Value} {l : List TypeId} (h : w.ownsRow B e s v n xs) (hn : e ∉ l) : Safe w v.ownBlock l := by
  intro k c t f hk h'
  obtain ⟨c', h2⟩ := row_kind h k hk
  rw [h2] at h'
  simp only [Option.some.injEq, Obj.cells.injEq] at h'
  rw [← h'.2.1]; exact hn
theorem own_safe {w w' : World} {B : Nat} {e : TypeId} {s : Nat} {v : Value} {n : Nat} {xs : List Value} {row : Option Nat} {l : List TypeId} (h : w.ownsRow B e s v n xs) (hg : w.grownBy w' row) (hs : Safe w row l) (he : e ∈ l) : w'.ownsRow B e s v n xs := by
  refine own_away h hg ?_
  intro k hk hr
  obtain ⟨c, h2⟩ := row_kind h k hk
  exact hs k c e (0, 0) hr h2 he

def leaves : List TypeId := [181, 183, 185, 9]
theorem RuleVal.keep {w w' : World} {cs : List Value} {r : R.Rl} {row : Option Nat} (h : RuleVal w cs r) (hg : w.grownBy w' row) (hs : Safe w row leaves) : RuleVal w' cs r := by
  obtain ⟨vM, vT, vS, vD, e, h1, h2, h3, h4⟩ := h
  exact ⟨vM, vT, vS, vD, e, own_safe h1 hg hs (by decide), own_safe h2 hg hs (by decide), own_safe h3 hg hs (by decide), own_safe h4 hg hs (by decide)⟩
theorem All2.map {α β : Type} {P Q : α → β → Prop} {l : List α} {m : List β} (h : All2 P l m) (hpq : ∀ a b, P a b → Q a b) : All2 Q l m := by
  induction h with
  | nil => exact .nil
  | cons h _ ih => exact .cons (hpq _ _ h) ih
theorem All2.snoc {α β : Type} {P : α → β → Prop} {l : List α} {m : List β} (h : All2 P l m) {a : α} {b : β} (hab : P a b) : All2 P (l ++ [a]) (m ++ [b]) := by
  induction h with
  | nil => exact .cons hab .nil
  | cons h _ ih => exact .cons h ih

/-- A list of rules in memory whose array lies from B on. -/
def RulesRowB (w : World) (B : Nat) (v : Value) (rs : List R.Rl) : Prop :=
  ∃ css : List (List Value), w.ownsRow B 126 8 v rs.length css.flatten ∧ All2 (RuleVal w) css rs
def rtags : List TypeId := 126 :: leaves
theorem RulesRowB.keep {w w' : World} {B : Nat} {v : Value} {rs : List R.Rl} {row : Option Nat} (h : RulesRowB w B v rs) (hg : w.grownBy w' row) (hs : Safe w row rtags) : RulesRowB w' B v rs := by
  obtain ⟨css, h1, h2⟩ := h
  refine ⟨css, own_safe h1 hg hs (by decide), h2.map fun a b hab => hab.keep hg ?_⟩
  intro k c t f hk hb hm
  exact hs k c t f hk hb (List.mem_cons_of_mem _ hm)
theorem RulesRowB.zero {w : World} {B : Nat} {v : Value} {rs : List R.Rl} (h : RulesRowB w B v rs) : RulesRow w v rs := by
  obtain ⟨css, h1, h2⟩ := h
  exact ⟨css, row_base h1 (Nat.zero_le _), h2⟩

structure R.Hst where
  name : List UInt8
  rules : List R.Rl
def HostVal (w : World) (cells : List Value) (h : R.Hst) : Prop := ∃ vR, cells = [.string (R.str h.name), vR] ∧ RulesRow w vR h.rules
def HostsRow (w : World) (B : Nat) (v : Value) (hs : List R.Hst) : Prop :=
  ∃ css : List (List Value), w.ownsRow B 119 2 v hs.length css.flatten ∧ All2 (HostVal w) css hs
def htags : List TypeId := 119 :: rtags
theorem RulesRow.keep {w w' : World} {v : Value} {rs : List R.Rl} {row : Option Nat} (h : RulesRow w v rs) (hg : w.grownBy w' row) (hs : Safe w row rtags) : RulesRow w' v rs :=
  (RulesRowB.keep (B := 0) h hg hs)
theorem HostVal.keep {w w' : World} {cs : List Value} {h : R.Hst} {row : Option Nat} (hv : HostVal w cs h) (hg : w.grownBy w' row) (hs : Safe w row rtags) : HostVal w' cs h := by
  obtain ⟨vR, e, h1⟩ := hv
  exact ⟨vR, e, h1.keep hg hs⟩
theorem HostsRow.keep {w w' : World} {B : Nat} {v : Value} {hs : List R.Hst} {row : Option Nat} (h : HostsRow w B v hs) (hg : w.grownBy w' row) (hsf : Safe w row htags) : HostsRow w' B v hs := by
  obtain ⟨css, h1, h2⟩ := h
  refine ⟨css, own_safe h1 hg hsf (by decide), h2.map fun a b hab => hab.keep hg ?_⟩
  intro k c t f hk hb hm
  exact hsf k c t f hk hb (List.mem_cons_of_mem _ hm)
theorem hosts_name {w : World} {css : List (List Value)} {hs : List R.Hst} (h : All2 (HostVal w) css hs) (k : Nat) (hk : k < hs.length) : css.flatten[k * 2]? = some (.string (R.str hs[k].name)) := by
  induction h generalizing k with
  | nil => simp at hk
  | @cons c r cs rs hc _ ih =>
    obtain ⟨vR, rfl, _⟩ := hc
    match k with
    | 0 => rfl
    | k + 1 =>
      rw [List.flatten_cons, List.getElem?_append_right (by simp; omega)]
      have := ih k (by simpa using hk)
      simp only [List.length_cons, List.length_nil]
      rw [show (k + 1) * 2 - (0 + 1 + 1) = k * 2 by omega]
      exact this

def R.rlLoop (ts : List R.Tok) : Nat → R.St → List R.Rl → List R.Rl × R.St
  | 0, st, acc => (acc, st)
  | n + 1, st, acc => if R.isB st (R.cur ts st) R.wRule then R.rlLoop ts n (R.ruleS ts st acc.length (acc.map R.Rl.number)).2 (acc ++ [(R.ruleS ts st acc.length (acc.map R.Rl.number)).1]) else (acc, st)
def R.wHost : List UInt8 := [104, 111, 115, 116]
def R.hsA2 (ts : List R.Tok) (s2 : R.St) (names : List (List UInt8)) : List UInt8 × R.St :=
  (R.lower (R.cur ts s2).s, R.among names (R.lower (R.cur ts s2).s) (R.cur ts s2).at_ (R.notS (R.kindS ts s2 34) (R.named (R.cur ts s2).s true) 4 (R.cur ts s2).at_))
def R.hsA (ts : List R.Tok) (st : R.St) (names : List (List UInt8)) : List UInt8 × R.St :=
  R.hsA2 ts (R.notS (R.needS ts st R.wHost) (decide ((names.length : Int) < 4)) 3 (R.cur ts st).at_) names
def R.hsB (ts : List R.Tok) (a : List UInt8 × R.St) : R.Hst × R.St :=
  (⟨a.1, (R.rlLoop ts (ts.length + 1) (R.needS ts a.2 [123]) []).1⟩, R.needS ts (R.rlLoop ts (ts.length + 1) (R.needS ts a.2 [123]) []).2 [125])
def R.hostS (ts : List R.Tok) (st : R.St) (names : List (List UInt8)) : R.Hst × R.St := R.hsB ts (R.hsA ts st names)

theorem R.pathS_K (ts : List R.Tok) (st : R.St) : st.K ≤ (R.pathS ts st).2.K := by
  unfold R.pathS; simp only [R.notS_K]; exact R.kindS_K _ _ _
theorem R.rlB_K (ts : List R.Tok) (st : R.St) : st.K ≤ (R.rlB ts st).2.K := by
  unfold R.rlB; simp only
  exact Nat.le_trans (Nat.le_trans (Nat.le_trans (R.needS_K _ _ _) (R.needS_K _ _ _)) (R.pathS_K _ _)) (R.needS_K _ _ _)
theorem R.rlC_K (ts : List R.Tok) (st : R.St) : st.K ≤ (R.rlC ts st).2.K := by
  unfold R.rlC; split
  · exact Nat.le_trans (Nat.le_trans (R.needS_K _ _ _) (R.pathS_K _ _)) (R.needS_K _ _ _)
  · exact Nat.le_refl _
theorem R.mtLoop_K (ts : List R.Tok) (n : Nat) : ∀ (st : R.St) (acc : List R.Mt), st.K ≤ (R.mtLoop ts n st acc).2.K := by
  induction n with
  | zero => intro st acc; exact Nat.le_refl _
  | succ n ih =>
    intro st acc; unfold R.mtLoop; split
    · rename_i h; have := R.mtRound_K ts st acc h; have := ih (R.mtRound ts st acc).1 (R.mtRound ts st acc).2; omega
    · exact Nat.le_refl _
theorem R.tgLoop_K (ts : List R.Tok) (n : Nat) : ∀ (st : R.St) (i : Nat) (acc : List (List UInt8 × Int)), st.K ≤ (R.tgLoop ts n st i acc).2.K := by
  induction n with
  | zero => intro st i acc; exact Nat.le_refl _
  | succ n ih =>
    intro st i acc; unfold R.tgLoop; split
    · split
      · have h1 := R.tgRound_K ts st i acc
        have h2 := R.needS_K ts (R.tgRound ts st i acc).1 [44]
        have := ih (R.needS ts (R.tgRound ts st i acc).1 [44]) (i + 1) (R.tgRound ts st i acc).2
        omega
      · exact R.tgRound_K ts st i acc
    · exact Nat.le_refl _
theorem R.targetsS_K (ts : List R.Tok) (st : R.St) : st.K ≤ (R.targetsS ts st).2.K := by
  unfold R.targetsS; simp only
  have h1 := R.needS_K ts st [116, 111]
  refine Nat.le_trans ?_ (R.needS_K _ _ _)
  refine Nat.le_trans ?_ (R.tgLoop_K _ _ _ _ _)
  rw [R.notS_K]; exact h1
theorem R.stLoop_K (ts : List R.Tok) (n : Nat) : ∀ (st : R.St) (acc : List (List UInt8 × List UInt8)), st.K ≤ (R.stLoop ts n st acc).2.K := by
  induction n with
  | zero => intro st acc; exact Nat.le_refl _
  | succ n ih =>
    intro st acc; unfold R.stLoop; split
    · rename_i h; have := R.stRound_K ts st acc h; have := ih (R.stRound ts st acc).1 (R.stRound ts st acc).2; omega
    · exact Nat.le_refl _
theorem R.dpLoop_K (ts : List R.Tok) (sets : List (List UInt8)) (n : Nat) : ∀ (st : R.St) (acc : List (List UInt8)), st.K ≤ (R.dpLoop ts sets n st acc).2.K := by
  induction n with
  | zero => intro st acc; exact Nat.le_refl _
  | succ n ih =>
    intro st acc; unfold R.dpLoop; split
    · rename_i h; have := R.dpRound_K ts st sets acc h; have := ih (R.dpRound ts st sets acc).1 (R.dpRound ts st sets acc).2; omega
    · exact Nat.le_refl _
theorem R.editsS_K (ts : List R.Tok) (st : R.St) : st.K ≤ (R.editsS ts st).2.K := by
  unfold R.editsS; simp only
  exact Nat.le_trans (R.stLoop_K _ _ _ _) (R.dpLoop_K _ _ _ _ _)
theorem R.amongN_K (l : List Int) (n p : Int) (st : R.St) : (R.amongN l n p st).K = st.K := by
  unfold R.amongN
  induction l generalizing st with
  | nil => rfl
  | cons a l ih => rw [List.foldl_cons, ih, R.notS_K]
theorem R.ruleS_K (ts : List R.Tok) (st : R.St) (i : Nat) (l : List Int) (h : R.isB st (R.cur ts st) R.wRule = true) : st.K + 1 ≤ (R.ruleS ts st i l).2.K := by
  have h1 : (R.needS ts st R.wRule).K = st.K + 1 := by rw [R.needS_yes h]
  have h2 : (R.needS ts st R.wRule).K ≤ (R.rlA ts st i l).2.K := by
    unfold R.rlA R.rlA2; simp only [R.amongN_K, R.notS_K]
    have := R.kindS_K ts (R.notS (R.needS ts st R.wRule) (decide ((i : Int) < 6)) 3 (R.cur ts st).at_) 49
    rwa [R.notS_K] at this
  have h3 := R.rlB_K ts (R.rlA ts st i l).2
  have h4 := R.mtLoop_K ts (ts.length + 1) (R.rlB ts (R.rlA ts st i l).2).2 []
  have h5 := R.targetsS_K ts (R.matchesS ts (R.rlB ts (R.rlA ts st i l).2).2).2
  have h6 := R.rlC_K ts (R.targetsS ts (R.matchesS ts (R.rlB ts (R.rlA ts st i l).2).2).2).2
  have h7 := R.editsS_K ts (R.rlC ts (R.targetsS ts (R.matchesS ts (R.rlB ts (R.rlA ts st i l).2).2).2).2).2
  have h8 := R.needS_K ts (R.editsS ts (R.rlC ts (R.targetsS ts (R.matchesS ts (R.rlB ts (R.rlA ts st i l).2).2).2).2).2).2 [125]
  unfold R.ruleS R.ruleT R.ruleE
  unfold R.matchesS at *
  simp only
  omega

end Go.Proofs.YtfocdefchbnkpaaGreatDoor
