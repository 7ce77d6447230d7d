/- A row of memory that slices.SortFunc has sorted. -/
import Derived.Test.YtfocdefchbnkpaaGreatDoorProR
import Derived.Shelf.SlSortCmp.SmallK
namespace Go.Proofs.YtfocdefchbnkpaaGreatDoor
open Go.RowKit Go.Sort

theorem flatK_get {α : Type} [Inhabited α] (enc : α → List Value) (k : Nat) (hk : ∀ x, (enc x).length = k) (d : List α) (t : Nat) (h : t < d.length * k) : (d.map enc).flatten[t]? = some (enc d[t / k]!)[t % k]! := by
  have k0 : 0 < k := by rcases Nat.eq_zero_or_pos k with h0 | h0; · subst h0; simp at h
                        · exact h0
  induction d generalizing t with
  | nil => simp at h
  | cons x d ih =>
    rw [List.map_cons, List.flatten_cons]
    by_cases ht : t < k
    · rw [List.getElem?_append_left (by rw [hk]; exact ht), Nat.div_eq_of_lt ht, Nat.mod_eq_of_lt ht]
      rw [List.getElem?_eq_getElem (by rw [hk]; exact ht)]
      congr 1
      rw [getElem!_pos _ t (by rw [List.getElem!_cons_zero, hk]; exact ht)]
      rfl
    · obtain ⟨u, rfl⟩ : ∃ u, t = u + k := ⟨t - k, by omega⟩
      rw [List.getElem?_append_right (by rw [hk]; omega), hk, Nat.add_sub_cancel, ih u (by simp [Nat.add_mul] at h; omega), Nat.add_div_right _ k0, Nat.add_mod_right]
      rfl
theorem flatK_list {α : Type} [Inhabited α] (enc : α → List Value) (k : Nat) (hk : ∀ x, (enc x).length = k) (d : List α) : (flatK enc k d.toArray).toList = (d.map enc).flatten := by
  apply List.ext_getElem?
  intro t
  by_cases h : t < d.length * k
  · rw [flatK_get enc k hk d t h]
    have h1 := get_flatK enc k d.toArray t (by simpa using h)
    rw [getElem!_pos _ t (by simpa using h)] at h1
    rw [Array.getElem?_toList, Array.getElem?_eq_getElem (by simpa using h), h1]
    simp
  · rw [List.getElem?_eq_none (by simp; omega), List.getElem?_eq_none]
    have : (d.map enc).flatten.length = d.length * k := by
      clear h
      induction d with
      | nil => simp
      | cons x d ih => rw [List.map_cons, List.flatten_cons, List.length_append, ih, hk, List.length_cons, Nat.add_mul]; omega
    omega
theorem flat_length {α : Type} (enc : α → List Value) (k : Nat) (hk : ∀ x, (enc x).length = k) (d : List α) : (d.map enc).flatten.length = d.length * k := by
  induction d with
  | nil => simp
  | cons x d ih => rw [List.map_cons, List.flatten_cons, List.length_append, ih, hk, List.length_cons, Nat.add_mul]; omega

theorem holds_of_row {α : Type} [Inhabited α] {w : World} {B g cap : Nat} {e : TypeId} (enc : α → List Value) (k : Nat) (hk : ∀ x, (enc x).length = k) (d : List α)
    (h : w.ownsRow B e k (.slice (some ⟨g, 0, none⟩) d.length cap) d.length (d.map enc).flatten) : HoldsK enc k w g 0 d.toArray := by
  intro j hj
  have hj' : j < d.length * k := by simpa using hj
  rw [Nat.zero_add]
  refine ⟨?_, ?_⟩
  · rw [World.ownsRow.cellAt h j hj', flatK_get enc k hk d j hj', get_flatK enc k d.toArray j (by simpa using hj')]
    simp
  · rcases h.2 with ⟨h1, _⟩ | ⟨g', c', cur, h1, _, h2, _⟩
    · cases h1
    · simp only [Value.slice.injEq, Option.some.injEq, Addr.mk.injEq] at h1
      obtain ⟨⟨rfl, _⟩, _, rfl⟩ := h1
      exact frozen_of_block h2
theorem grown_sortK {α : Type} [Inhabited α] (enc : α → List Value) (k : Nat) (w : World) (g m : Nat) (d : Array α) (os : Array Obj) : w.grownBy (sortWorldK enc k w g 0 m d os) (some g) := by
  refine ⟨rfl, rfl, rfl, ?_, ?_⟩
  · simp [sortWorldK, grow, putRowK, putRow, mapBlock, Go.Sort.ahead]
  · intro j hj hne
    have hne' : g ≠ j := fun h => hne (by rw [h])
    simp only [sortWorldK, grow, putRowK, putRow, mapBlock, Go.Sort.ahead]
    rw [Array.getElem?_append_left (by simpa using hj), Array.getElem?_modify, if_neg hne']
theorem put_list (F cur : Array Value) (h : F.size ≤ cur.size) : ((putCells id 0 F cur).toList.take F.size) = F.toList := by
  apply List.ext_getElem?
  intro t
  rw [List.getElem?_take]
  by_cases ht : t < F.size
  · rw [if_pos ht]
    simp only [putCells, Array.getElem?_toList, Array.getElem?_mapIdx]
    rw [Array.getElem?_eq_getElem (by omega), Array.getElem?_eq_getElem ht]
    simp [ht]
  · rw [if_neg ht, List.getElem?_eq_none (by simpa using ht)]
theorem row_sorted {α : Type} [Inhabited α] {w : World} {B g cap : Nat} {e : TypeId} (enc : α → List Value) (k : Nat) (hk : ∀ x, (enc x).length = k) (d d' : List α) (hd : d'.length = d.length) (m : Nat) (os : Array Obj)
    (h : w.ownsRow B e k (.slice (some ⟨g, 0, none⟩) d.length cap) d.length (d.map enc).flatten) :
    (sortWorldK enc k w g 0 m d'.toArray os).ownsRow B e k (.slice (some ⟨g, 0, none⟩) d.length cap) d.length (d'.map enc).flatten := by
  rcases h.2 with ⟨h1, _⟩ | ⟨g', c', cur, h1, hB, h2, h3, h4, h5, h6⟩
  · cases h1
  · simp only [Value.slice.injEq, Option.some.injEq, Addr.mk.injEq] at h1
    obtain ⟨⟨rfl, _⟩, _, rfl⟩ := h1
    refine ⟨by rw [flat_length enc k hk, hd], Or.inr ⟨g, cap, putCells id 0 (flatK enc k d'.toArray) cur, rfl, hB, ?_, h3, h4, by simp [putCells, h5], ?_⟩⟩
    · have hl : g < w.heap.size := block_lt h2
      simp only [sortWorldK, grow, putRowK, putRow, mapBlock, Go.Sort.ahead]
      rw [Array.getElem?_append_left (by simpa using hl), Array.getElem?_modify, if_pos rfl, h2]
      rfl
    · have := put_list (flatK enc k d'.toArray) cur (by simp; rw [hd, h5]; exact Nat.mul_le_mul_right _ h3)
      rw [flatK_list enc k hk d'] at this
      rw [← this]; simp [hd]
end Go.Proofs.YtfocdefchbnkpaaGreatDoor
