/- Labels, names, hosts and values: what the library's ways to tell them come to. -/
import Derived.Test.YtfocdefchbnkpaaGreatDoorProC
import Derived.Lib.Split
import Derived.Lib.TrimByte
namespace Go.Proofs.YtfocdefchbnkpaaGreatDoor
open Go.RowKit

def P.allIn (n : Nat) (pcs : List (List UInt8)) : Bool :=
  match pcs with
  | [] => false
  | p :: ps => R.allB (fun c => R.partI c true) p && (decide (0 < n + p.length) && ps.all fun x => R.word x true)

theorem P.labels_run (a r : List UInt8) (n : Nat) (h : ∀ c ∈ a, c ≠ 46) : R.labelsGo true (a ++ r) n = (R.allB (fun c => R.partI c true) a && R.labelsGo true r (n + a.length)) := by
  induction a generalizing n with
  | nil => simp [R.allB]
  | cons c a ih =>
    have hc := h c (by simp)
    have h46 : ¬ (c.toNat : Int) = 46 := by
      intro e; apply hc; apply UInt8.toNat_inj.1; show c.toNat = 46; omega
    rw [List.cons_append, R.labelsGo, if_neg (fun x => h46 x.1), ih (n + 1) (fun d hd => h d (by simp [hd]))]
    have ha : R.allB (fun c => R.partI c true) (c :: a) = (R.partI c.toNat true && R.allB (fun c => R.partI c true) a) := by simp [R.allB]
    rw [ha, List.length_cons, show n + 1 + a.length = n + (a.length + 1) by omega]
    cases R.partI (↑c.toNat) true <;> simp

theorem P.idx_split (l : List UInt8) (x : UInt8) : (Lib.index l [x] = -1 ∧ ∀ c ∈ l, c ≠ x) ∨ ∃ i : Nat, Lib.index l [x] = i ∧ i < l.length ∧ l = l.take i ++ x :: l.drop (i + 1) ∧ ∀ c ∈ l.take i, c ≠ x := by
  induction l with
  | nil => left; exact ⟨rfl, by simp⟩
  | cons c r ih =>
    rw [idx_cons]
    by_cases h : c = x
    · right; exact ⟨0, by rw [if_pos h]; rfl, by simp, by simp [h], by simp⟩
    · rw [if_neg h]
      rcases ih with ⟨h1, h2⟩ | ⟨i, h1, h2, h3, h4⟩
      · left; refine ⟨by rw [if_pos h1], ?_⟩
        intro d hd
        rcases List.mem_cons.1 hd with rfl | hd
        · exact h
        · exact h2 d hd
      · right
        refine ⟨i + 1, by rw [if_neg (by omega), h1]; rfl, by simp; omega, ?_, ?_⟩
        · rw [List.take_succ_cons, List.drop_succ_cons, List.cons_append, ← h3]
        · intro d hd
          rw [List.take_succ_cons] at hd
          rcases List.mem_cons.1 hd with rfl | hd
          · exact h
          · exact h4 d hd

theorem P.split_labels : ∀ (m : Nat) (l : List UInt8) (n : Nat), l.length ≤ m → P.allIn n (Lib.splitK [46] 0 (Lib.count l [46]) l) = R.labelsGo true l n := by
  intro m
  induction m with
  | zero =>
    intro l n h
    have : l = [] := List.length_eq_zero_iff.1 (by omega)
    subst this
    rw [show Lib.count [] [46] = 0 from rfl]
    simp [Lib.splitK, P.allIn, R.labelsGo, R.allB]
  | succ m ih =>
    intro l n h
    rcases P.idx_split l 46 with ⟨h1, h2⟩ | ⟨i, h1, h2, h3, h4⟩
    · have hc : Lib.count l [46] = 0 := Lib.count_miss h1
      rw [hc]
      have := P.labels_run l [] n h2
      rw [List.append_nil] at this
      rw [this]
      simp [Lib.splitK, P.allIn, R.labelsGo]
    · have hc : Lib.count l [46] = 1 + Lib.count (l.drop (i + 1)) [46] := Lib.count_hit (by simp) h1
      rw [hc, Nat.add_comm, Lib.splitK, if_neg (by rw [h1]; simp)]
      have ihr := ih (l.drop (i + 1)) 0 (by rw [List.length_drop]; omega)
      have hrun := P.labels_run (l.take i) (46 :: l.drop (i + 1)) n h4
      rw [← h3] at hrun
      rw [hrun, R.labelsGo]
      have hl : (l.take i).length = i := by rw [List.length_take]; omega
      rw [hl, h1]
      simp only [Int.toNat_natCast, Nat.add_zero, List.length_cons, List.length_nil]
      rw [P.allIn]
      rw [hl]
      have hall : ((Lib.splitK [46] 0 (Lib.count (l.drop (i + 1)) [46]) (l.drop (i + 1))).all fun x => R.word x true) = P.allIn 0 (Lib.splitK [46] 0 (Lib.count (l.drop (i + 1)) [46]) (l.drop (i + 1))) := by
        generalize hs : Lib.splitK [46] 0 (Lib.count (l.drop (i + 1)) [46]) (l.drop (i + 1)) = sp
        cases sp with
        | nil => exfalso; revert hs; cases Lib.count (l.drop (i + 1)) [46] with
          | zero => simp [Lib.splitK]
          | succ k => rw [Lib.splitK]; split <;> simp
        | cons p ps => rw [List.all_cons, P.allIn]; unfold R.word; simp [Bool.and_assoc]
      rw [hall, ihr]
      by_cases h0 : 0 < n + i
      · rw [decide_eq_true h0, Bool.true_and, if_pos ⟨by decide, h0⟩]
      · rw [decide_eq_false h0, if_neg (fun x => h0 x.2)]; simp [R.partI, R.smallI, R.digitI, R.largeI]

/-- The program's way to tell a name. -/
def P.nameP (l : List UInt8) : Bool := (Lib.splitK [46] 0 (Lib.count l [46]) l).all fun x => R.word x true
theorem P.name_eq (l : List UInt8) : P.nameP l = R.labels l true := by
  unfold P.nameP R.labels
  rw [← P.split_labels l.length l 0 (Nat.le_refl _)]
  generalize hs : Lib.splitK [46] 0 (Lib.count l [46]) l = sp
  cases sp with
  | nil => exfalso; revert hs; cases Lib.count l [46] with
    | zero => simp [Lib.splitK]
    | succ k => rw [Lib.splitK]; split <;> simp
  | cons p ps => rw [List.all_cons, P.allIn]; unfold R.word; simp [Bool.and_assoc]

theorem P.host_eq (l : List UInt8) : (decide (l = [42]) || P.nameP (Lib.trimPrefix l [42, 46])) = R.named l true := by
  rw [P.name_eq]
  unfold R.named Lib.trimPrefix Lib.hasPrefix
  by_cases h1 : l = [42]
  · rw [if_pos h1, decide_eq_true h1]; rfl
  · rw [if_neg h1, decide_eq_false h1, Bool.false_or]
    by_cases hp : ([42, 46] : List UInt8).isPrefixOf l = true
    · rw [if_pos hp]
      rw [List.isPrefixOf_iff_prefix] at hp
      obtain ⟨r, rfl⟩ := hp
      by_cases hr : 0 < r.length
      · rw [if_pos (by constructor; rfl; simp; omega)]; rfl
      · have : r = [] := List.length_eq_zero_iff.1 (by omega)
        subst this
        rw [if_neg (by simp)]
        decide
    · rw [if_neg hp, if_neg]
      intro ⟨c, _⟩
      apply hp
      rw [List.isPrefixOf_iff_prefix]
      exact ⟨l.drop 2, by rw [← c, List.take_append_drop]⟩

theorem P.trim_eq (l : List UInt8) : decide (Lib.trimB l 32 = l) = (decide (l.length = 0) || (decide (l.head? ≠ some 32) && decide (l.getLast? ≠ some 32))) := by
  unfold Lib.trimB Lib.trimLeftB Lib.trimRightB
  have dw : ∀ (m : List UInt8), (m.dropWhile (· == 32)).length ≤ m.length := fun m => List.IsSuffix.length_le (List.dropWhile_suffix _)
  have dwe : ∀ (m : List UInt8), m.dropWhile (· == 32) = m ↔ m.head? ≠ some 32 := by
    intro m
    cases m with
    | nil => simp
    | cons c m =>
      rw [List.dropWhile_cons]
      by_cases hc : c = 32
      · subst hc
        rw [if_pos (by simp)]
        constructor
        · intro e; have := dw m; rw [e, List.length_cons] at this; omega
        · intro e; simp at e
      · rw [if_neg (by simpa using hc)]; simpa using hc
  rw [Bool.eq_iff_iff]
  simp only [decide_eq_true_eq, Bool.or_eq_true, Bool.and_eq_true]
  constructor
  · intro h
    by_cases h0 : l.length = 0
    · exact Or.inl h0
    · right
      have l1 : (l.reverse.dropWhile (· == 32)).reverse.length ≤ l.length := by rw [List.length_reverse]; have := dw l.reverse; rwa [List.length_reverse] at this
      have l2 := dw (l.reverse.dropWhile (· == 32)).reverse
      rw [h] at l2
      have e1 : l.reverse.dropWhile (· == 32) = l.reverse := by
        apply List.IsSuffix.eq_of_length (List.dropWhile_suffix _)
        rw [List.length_reverse] at *; omega
      rw [e1, List.reverse_reverse] at h
      have a := (dwe l).1 h
      have b := (dwe l.reverse).1 e1
      rw [List.head?_reverse] at b
      exact ⟨a, b⟩
  · intro h
    rcases h with h | ⟨a, b⟩
    · have : l = [] := List.length_eq_zero_iff.1 h
      subst this; rfl
    · have e1 : l.reverse.dropWhile (· == 32) = l.reverse := (dwe l.reverse).2 (by rw [List.head?_reverse]; exact b)
      rw [e1, List.reverse_reverse]
      exact (dwe l).2 a

end Go.Proofs.YtfocdefchbnkpaaGreatDoor
