/- Numbers and lists of targets as text: the library's words and the document's. -/
import Derived.Test.YtfocdefchbnkpaaGreatDoorProZ1
namespace Go.Proofs.YtfocdefchbnkpaaGreatDoor
open Go.RowKit

theorem dec_digits (n : Nat) : Lib.decDigits n = R.dec n := by
  induction n using Nat.strongRecOn with
  | _ n ih =>
    rw [Lib.decDigits, R.dec]
    by_cases h : n < 10
    · rw [dif_pos h, if_pos h]
    · rw [dif_neg h, if_neg h, ih (n / 10) (by omega)]
theorem itoa_dec (n : Int) (h : 0 ≤ n) : Lib.itoa n = R.decI n := by
  unfold Lib.itoa R.decI
  rw [if_neg (by omega), dec_digits]
theorem join_tgs (l : List (List UInt8 × Int)) : Lib.join (l.map R.lnTg) [44, 32] = R.lnTgs l := by
  cases l with
  | nil => rfl
  | cons a l =>
    rw [List.map_cons, Lib.join_cons]
    unfold R.lnTgs Lib.joinTail
    rw [List.map_map]; rfl
end Go.Proofs.YtfocdefchbnkpaaGreatDoor

/- The lines that the program writes, and the document's own lines. -/
namespace Go.Proofs.YtfocdefchbnkpaaGreatDoor
open Go.RowKit

def P.repS (r : P.Rl) : List UInt8 := if r.rep = [] then [] else lnS 2 [[114, 101, 112, 108, 97, 99, 101, 32], R.q r.rep, [59]]
def P.head1 (r : P.Rl) : List UInt8 := lnS 1 [[114, 117, 108, 101, 32], R.decI r.number, [32, 123]]
def P.head2 (r : P.Rl) : List UInt8 := lnS 2 [[112, 97, 116, 104, 32], R.q r.path, [59]]
def P.toS (r : P.Rl) : List UInt8 := lnS 2 [[116, 111, 32], R.lnTgs r.tg, [59]]
theorem set_ln (t : List UInt8 × List UInt8) : lnS 2 [[115, 101, 116, 32], R.q t.1, [32, 61, 32], R.q t.2, [59]] = R.lnSet t := by
  unfold lnS R.lnSet; simp
theorem drop_ln (t : List UInt8) : lnS 2 [[100, 114, 111, 112, 32], R.q t, [59]] = R.lnDrop t := by
  unfold lnS R.lnDrop; simp
theorem rep_ln (r : P.Rl) : P.repS r = R.lnTo (toRl r) := by
  unfold P.repS R.lnTo toRl rlOf lnS
  by_cases h : r.rep = [] <;> simp [h]
theorem head_ln (r : P.Rl) : P.head1 r ++ P.head2 r = R.lnHead (toRl r) := by
  unfold P.head1 P.head2 R.lnHead toRl rlOf lnS; simp
theorem lines_ln (r : P.Rl) : P.head1 r ++ P.head2 r ++ (r.ms.map fun m => R.lnMt (mtOf m)).flatten ++ P.toS r ++ P.repS r ++ (r.sets.map R.lnSet).flatten ++ (r.drops.map R.lnDrop).flatten ++ lnS 1 [[125]] = R.lines (toRl r) := by
  have e : (toRl r).ms.map R.lnMt = r.ms.map fun m => R.lnMt (mtOf m) := by
    show (r.ms.map mtOf).map R.lnMt = _
    rw [List.map_map]; rfl
  rw [rep_ln, head_ln]
  unfold R.lines P.toS lnS
  rw [e]
  show _ = R.lnHead (toRl r) ++ _ ++ _ ++ R.lnTgs r.tg ++ _ ++ _ ++ (r.sets.map R.lnSet).flatten ++ (r.drops.map R.lnDrop).flatten ++ _
  simp
theorem host_ln (h : P.Hst) : lnS 0 [[104, 111, 115, 116, 32], R.q h.name, [32, 123]] ++ (h.rules.map fun r => R.lines (toRl r)).flatten ++ lnS 0 [[125]] = R.hostLines (toR h) := by
  have e : (toR h).rules.map R.lines = h.rules.map fun r => R.lines (toRl r) := by
    show (h.rules.map toRl).map R.lines = _
    rw [List.map_map]; rfl
  unfold R.hostLines lnS
  rw [e]
  show _ = _ ++ R.q h.name ++ _ ++ _ ++ _
  simp
theorem plain_ln (hs : List P.Hst) : R.plain (hs.map toR) = (hs.map fun h => R.hostLines (toR h)).flatten := by
  unfold R.plain; rw [List.map_map]; rfl
end Go.Proofs.YtfocdefchbnkpaaGreatDoor
