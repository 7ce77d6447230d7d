/- The plain functions that the document's own reading of a policy computes byte by byte (labels, names, paths, headers, values, upstreams, numbers), with no program in them. -/
import Derived.WalkKit
namespace Go.Proofs.YtfocdefchbnkpaaGreatDoor
namespace R

/-- A byte list as a string. -/
def str (l : List UInt8) : ByteArray := ⟨l.toArray⟩

theorem str_toList (l : List UInt8) : (str l).data.toList = l := by simp [str]
theorem str_of (s : ByteArray) : str s.data.toList = s := by cases s; simp [str]
theorem str_size (l : List UInt8) : (str l).size = l.length := rfl
theorem size_eq (s : ByteArray) : s.data.toList.length = s.size := by rw [Array.length_toList]; rfl

def smallI (c : Int) : Bool := decide (97 ≤ c) && decide (c ≤ 122)
def digitI (c : Int) : Bool := decide (48 ≤ c) && decide (c ≤ 57)
def largeI (c : Int) : Bool := decide (65 ≤ c) && decide (c ≤ 90)
def partI (c : Int) (large : Bool) : Bool := smallI c || digitI c || c == 45 || (large && largeI c)
def pathI (c : Int) : Bool := decide (33 ≤ c ∧ c ≤ 126 ∧ c ≠ 63 ∧ c ≠ 35 ∧ c ≠ 34)
def valueI (c : Int) : Bool := decide (32 ≤ c ∧ c ≤ 126 ∧ c ≠ 34)
def upI (c : Int) : Bool := partI c false || decide (c = 46 ∨ c = 58)

/-- Every byte is such. -/
def allB (p : Int → Bool) (l : List UInt8) : Bool := l.all fun c => p c.toNat

theorem drop_cons (s : ByteArray) (k : Nat) (h : k < s.size) : s.data.toList.drop k = s[k] :: s.data.toList.drop (k + 1) := by
  rw [List.drop_eq_getElem_cons (by rw [size_eq]; exact h)]; rfl
theorem take_snoc (s : ByteArray) (k : Nat) (h : k < s.size) : s.data.toList.take (k + 1) = s.data.toList.take k ++ [s[k]] := by
  rw [List.take_succ_eq_append_getElem (by rw [size_eq]; exact h)]; rfl
theorem all_succ {p : Int → Bool} {s : ByteArray} {k : Nat} (h : k < s.size) (ht : allB p (s.data.toList.take k) = true) (hp : p s[k].toNat = true) : allB p (s.data.toList.take (k + 1)) = true := by
  rw [take_snoc s k h]; unfold allB at *; rw [List.all_append, ht]; simp [hp]
theorem all_false {p : Int → Bool} {s : ByteArray} {k : Nat} (h : k < s.size) (hp : p s[k].toNat = false) : allB p s.data.toList = false := by
  have e : s.data.toList = s.data.toList.take k ++ s.data.toList.drop k := (List.take_append_drop k _).symm
  rw [e, drop_cons s k h]; unfold allB; rw [List.all_append]; simp [hp]
theorem all_done {p : Int → Bool} {s : ByteArray} {k : Nat} (h : s.size ≤ k) (ht : allB p (s.data.toList.take k) = true) : allB p s.data.toList = true := by
  rwa [List.take_of_length_le (by rw [size_eq]; exact h)] at ht

def labelsGo (lg : Bool) : List UInt8 → Nat → Bool
  | [], n => decide (0 < n)
  | c :: cs, n => if (c.toNat : Int) = 46 ∧ 0 < n then labelsGo lg cs 0 else if partI c.toNat lg then labelsGo lg cs (n + 1) else false
def labels (l : List UInt8) (lg : Bool) : Bool := labelsGo lg l 0

def named (l : List UInt8) (lg : Bool) : Bool := if l = [42] then true else if l.take 2 = [42, 46] ∧ 2 < l.length then labels (l.drop 2) lg else labels l lg
def path (l : List UInt8) : Bool := allB pathI l && (decide (0 < l.length) && decide (l.head? = some 47))
def word (l : List UInt8) (lg : Bool) : Bool := allB (fun c => partI c lg) l && decide (0 < l.length)
def lowC (c : UInt8) : UInt8 := if largeI c.toNat then c + 32 else c
def lower (l : List UInt8) : List UInt8 := l.map lowC
def host : List UInt8 := [104, 111, 115, 116]
def contentLength : List UInt8 := [99, 111, 110, 116, 101, 110, 116, 45, 108, 101, 110, 103, 116, 104]
def transferEncoding : List UInt8 := [116, 114, 97, 110, 115, 102, 101, 114, 45, 101, 110, 99, 111, 100, 105, 110, 103]
def header (l : List UInt8) (lg : Bool) : Bool := word l lg && (decide (lower l ≠ host) && (decide (lower l ≠ contentLength) && decide (lower l ≠ transferEncoding)))
def value (l : List UInt8) : Bool := allB valueI l && (decide (l.length = 0) || (decide (l.head? ≠ some 32) && decide (l.getLast? ≠ some 32)))
def upstream (l : List UInt8) : Bool := allB upI l && decide (0 < l.length)

end R
end Go.Proofs.YtfocdefchbnkpaaGreatDoor
