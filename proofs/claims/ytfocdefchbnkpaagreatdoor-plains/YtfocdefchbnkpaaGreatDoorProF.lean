/- Small letters, labels and names, as the program tells them. -/
import Derived.Test.YtfocdefchbnkpaaGreatDoorProE1
import Derived.Test.YtfocdefchbnkpaaGreatDoorRefG
import Derived.Lib.SlBytesRow
namespace Go.Proofs.YtfocdefchbnkpaaGreatDoor
open Go.RowKit


/-- The bytes of a list in a block of their own. -/
def BytesAt (w : World) (b : Nat) (l : List UInt8) : Prop :=
  ∃ (cur : Array Value) (lo hi : Nat), w.heap[b]? = some (.cells cur 5 (lo, hi)) ∧ l.length ≤ lo ∧ l.length ≤ cur.size ∧ ∀ (j : Nat) (c : UInt8), l[j]? = some c → cur[j]? = some (Value.int .u8 c.toNat)
theorem BytesAt.cell {w : World} {b : Nat} {l : List UInt8} (h : BytesAt w b l) {j : Nat} {c : UInt8} (hj : l[j]? = some c) : w.cell? ⟨b, j, none⟩ = some (.int .u8 c.toNat) := by
  obtain ⟨cur, lo, hi, h1, _, _, h4⟩ := h
  rw [cell_of_block h1]; exact h4 j c hj
theorem BytesAt.free {w : World} {b : Nat} {l : List UInt8} (h : BytesAt w b l) {j : Nat} (hj : j < l.length) : w.frozen? ⟨b, j, none⟩ = false := by
  obtain ⟨cur, lo, hi, h1, h2, _, _⟩ := h
  unfold World.frozen?
  simp only [h1]
  simp; omega
theorem BytesAt.set {w : World} {b : Nat} {l : List UInt8} (h : BytesAt w b l) (j : Nat) (hj : j < l.length) (c : UInt8) : BytesAt (w.setCell ⟨b, j, none⟩ (.int .u8 c.toNat)) b (l.set j c) := by
  obtain ⟨cur, lo, hi, h1, h2, h3, h4⟩ := h
  refine ⟨cur.setIfInBounds j (.int .u8 c.toNat), lo, hi, block_setCell h1 _, by rw [List.length_set]; exact h2, by rw [List.length_set, Array.size_setIfInBounds]; exact h3, ?_⟩
  intro i d hd
  rw [List.getElem?_set] at hd
  rw [Array.getElem?_setIfInBounds]
  by_cases hij : j = i
  · subst hij
    rw [if_pos rfl, if_pos hj] at hd
    rw [if_pos rfl, if_pos (by omega)]
    cases hd; rfl
  · rw [if_neg hij] at hd ⊢
    exact h4 i d hd
theorem BytesAt.new (w : World) (s : ByteArray) : BytesAt (Lib.bytesWorld w 5 s) w.heap.size s.data.toList := by
  refine ⟨_, _, _, Lib.bytesWorld_at_new w _ s, ?_, ?_, ?_⟩
  · unfold Lib.bytesCells; simp
  · unfold Lib.bytesCells; simp
  · intro j c hc
    unfold Lib.bytesCells
    have hj : j < s.data.size := by
      have := (List.getElem?_eq_some_iff.1 hc).1; simpa using this
    rw [Array.getElem?_append_left (by simpa using hj), Array.getElem?_map]
    have : s.data[j]? = some c := by rw [← Array.getElem?_toList]; exact hc
    rw [this]; rfl

theorem str_at (l : List UInt8) (i : Nat) (h : i < (R.str l).size) : l[i]? = some (R.str l)[i] := by
  have h2 : i < l.length := h
  rw [List.getElem?_eq_getElem h2]; rfl
theorem u8_add32 (c : UInt8) : ((c.toNat : Int) - 65 + 97) % 256 = (c + 32).toNat := by
  rw [UInt8.toNat_add]; simp; omega
/-- The first k bytes in small letters. -/
def P.mix (k : Nat) (l : List UInt8) : List UInt8 := (l.take k).map R.lowC ++ l.drop k
theorem P.mix_len (k : Nat) (l : List UInt8) : (P.mix k l).length = l.length := by unfold P.mix; rw [List.length_append, List.length_map, List.length_take, List.length_drop]; omega
theorem P.mix_at (k : Nat) (l : List UInt8) (h : k < l.length) : (P.mix k l)[k]? = some l[k] := by
  unfold P.mix
  rw [List.getElem?_append_right (by simp; omega)]
  simp [Nat.min_eq_left (Nat.le_of_lt h), List.getElem?_eq_getElem h]
theorem P.mix_step (k : Nat) (l : List UInt8) (h : k < l.length) : P.mix (k + 1) l = (P.mix k l).set k (R.lowC l[k]) := by
  unfold P.mix
  rw [List.take_succ_eq_append_getElem h, List.map_append, List.drop_eq_getElem_cons (i := k) h]
  have e : ((l.take k).map R.lowC).length = k := by simp; omega
  rw [List.set_append_right _ _ (by rw [e]; exact Nat.le_refl _), e, Nat.sub_self, List.set_cons_zero, List.append_assoc]
  rfl

set_option maxRecDepth 100000 in
set_option maxHeartbeats 1000000 in
theorem pro_Small (s : ByteArray) (w : World) (hs : s.size ≤ 1000000000000) :
    Calls Tryz.prog 239 #[.string s] w fun e w' => e = .returned (.string (R.str (R.lower s.data.toList))) ∧ w.grownBy w' none := by
  have hconv : ∀ w, (convert 9 32 (.string s)).run Tryz.prog w = .ok (.slice (some ⟨w.heap.size, 0, none⟩) s.size (grownCap w s.size 0 5)) (Lib.bytesWorld w 5 s) := fun w => Lib.run_convert_string_bytes (u := .string) w _ _ _ s (by kernel_rfl) (by kernel_rfl) (by kernel_rfl)
  have HB0 : Hid _ := BytesAt.new w s
  have HG0 : Hid _ := grown_bytes w 5 s
  have hz : w.heap.size < (Lib.bytesWorld w 5 s).heap.size := by rw [Lib.bytesWorld_size]; omega
  go_enter Tryz.func239, Tryz.ntmps239
  go_wp2
  clear hconv
  generalize Lib.bytesWorld w 5 s = wB at *
  generalize grownCap w s.size 0 5 = cap at *
  go_loopw [10] (fun iv wr => ∃ k : Nat, k ≤ s.size ∧ iv = .int .i64 k ∧ Hid (BytesAt wr w.heap.size (P.mix k s.data.toList)) ∧ Hid (w.grownBy wr none)) (fun iv _ => s.size - (intOf iv).toNat)
  case atStart => exact ⟨0, Nat.zero_le _, rfl, HB0, HG0⟩
  case round =>
    obtain ⟨k, hk, rfl, HB, HG⟩ := hrel
    by_cases hlt : k < s.size
    · have hl : k < s.data.toList.length := by rw [R.size_eq]; exact hlt
      have c1 := HB.out.cell (P.mix_at k s.data.toList hl)
      have f1 := HB.out.free (j := k) (by rw [P.mix_len]; exact hl)
      have HM : Hid _ := P.mix_step k s.data.toList hl
      have HS : Hid _ := HB.out.set k (by rw [P.mix_len]; exact hl) (R.lowC s.data.toList[k])
      have HLow : Hid (R.lowC s.data.toList[k] = if R.largeI s.data.toList[k].toNat then s.data.toList[k] + 32 else s.data.toList[k]) := rfl
      have HId : Hid (R.largeI s.data.toList[k].toNat = false → BytesAt wr w.heap.size (P.mix (k + 1) s.data.toList)) := fun h => by
        have e : R.lowC s.data.toList[k] = s.data.toList[k] := by unfold R.lowC; rw [h]; rfl
        rw [HM.out, e]
        have : (P.mix k s.data.toList).set k s.data.toList[k] = P.mix k s.data.toList := by
          apply List.ext_getElem?
          intro i
          rw [List.getElem?_set]
          by_cases hi : k = i
          · subst hi; rw [if_pos rfl, if_pos (by rw [P.mix_len]; exact hl), P.mix_at k _ hl]
          · rw [if_neg hi]
        rw [this]; exact HB.out
      generalize s.data.toList[k] = c at *
      cases hL : R.largeI c.toNat
      · have HB2 : Hid _ := HId.out hL
        go_wp2_with (go_at_call 309; refine (pro_IsLarge _ _).mono ?_; rintro e w' ⟨rfl, rfl⟩)
        exact ⟨⟨k + 1, by omega, by go_num, HB2, HG⟩, by simp [intOf]; omega⟩
      · rw [hL] at HLow
        simp only [if_true] at HLow
        go_wp2_with (go_at_call 309; refine (pro_IsLarge _ _).mono ?_; rintro e w' ⟨rfl, rfl⟩)
        refine ⟨⟨k + 1, by omega, by go_num, ?_, ?_⟩, by simp [intOf]; omega⟩
        · show BytesAt _ _ _
          rw [HM.out, show ((c.toNat : Int) - 65 + 97) % 256 = (R.lowC c).toNat by rw [HLow.out]; exact u8_add32 c]
          exact HS.out
        · exact grown_new HG.out (grown_setCell _ _ _ _) (Nat.le_refl _)
    · have hke : k = s.size := by omega
      subst hke
      have hfull : P.mix s.size s.data.toList = R.lower s.data.toList := by
        unfold P.mix R.lower; rw [List.take_of_length_le (by rw [R.size_eq]; exact Nat.le_refl _), List.drop_of_length_le (by rw [R.size_eq]; exact Nat.le_refl _), List.append_nil]
      rw [hfull] at HB
      have hcv : (convert 32 9 (.slice (some ⟨w.heap.size, 0, none⟩) s.size cap)).run Tryz.prog wr = .ok (.string (R.str (R.lower s.data.toList))) wr := by
        have hz2 : (R.str (R.lower s.data.toList)).size = s.size := by rw [R.str_size, lower_len, R.size_eq]
        have := Lib.run_convert_whole (P := Tryz.prog) wr 32 5 9 (by kernel_rfl) (by kernel_rfl) (by kernel_rfl) w.heap.size 0 (R.str (R.lower s.data.toList)) (fun i hi => by
          rw [Nat.zero_add]
          apply HB.out.cell
          exact str_at _ i hi) cap
        rw [hz2] at this; exact this
      clear hfull
      go_wp2
      go_ret
      exact ⟨rfl, HG.out⟩

end Go.Proofs.YtfocdefchbnkpaaGreatDoor
