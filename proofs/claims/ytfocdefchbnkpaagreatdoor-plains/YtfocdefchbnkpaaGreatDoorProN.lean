/- The targets of a rule, without those of the weight 0. -/
import Derived.Test.YtfocdefchbnkpaaGreatDoorProI
import Derived.Lib.SliceRun
namespace Go.Proofs.YtfocdefchbnkpaaGreatDoor
open Go.RowKit

set_option maxRecDepth 100000 in
set_option maxHeartbeats 2000000 in
theorem pro_del (x : Value) (n : Int) (w : World) :
    Calls Tryz.prog 335 #[.agg #[x, .int .i64 n]] w fun e w' => e = .returned (.bool (n == 0)) ∧ w.grownBy w' none := by
  go_enter Tryz.func335, Tryz.ntmps335
  go_wp2
  go_ret
  exact ⟨rfl, World.grownBy_alloc _ _ _⟩

set_option maxRecDepth 100000 in
set_option maxHeartbeats 2000000 in
theorem pro_IndexFunc_tg (w : World) (g n c : Nat) (xs : Nat → Value) (ws : Nat → Int) (hn : n ≤ 2000000000000)
    (h0 : ∀ k, k < n → w.cell? ⟨g, k * 2, none⟩ = some (xs k)) (h1 : ∀ k, k < n → w.cell? ⟨g, k * 2 + 1, none⟩ = some (.int .i64 (ws k))) :
    Calls Tryz.prog 381 #[.slice (some ⟨g, 0, none⟩) n c, .func (.func 335) #[] #[]] w fun e w' => e = .returned (.int .i64 (firstAt (fun k => ws k == 0) n 0)) ∧ w.grownBy w' none := by
  have H0 : Hid _ := h0
  have H1 : Hid _ := h1
  clear h0 h1
  go_enter Tryz.func381, Tryz.ntmps381
  go_wp2
  go_loopw [8] (fun iv wr => ∃ k : Nat, k ≤ n ∧ iv = .int .i64 k ∧ Hid (firstAt (fun k => ws k == 0) n 0 = firstAt (fun k => ws k == 0) (n - k) k) ∧ Hid (w.grownBy wr none)) (fun iv _ => n - (intOf iv).toNat)
  case atStart => exact ⟨0, Nat.zero_le _, rfl, rfl, grown_refl _ _⟩
  case round =>
    obtain ⟨k, hk, rfl, HF, HG⟩ := hrel
    by_cases hlt : k < n
    · have c0 := HG.out.cell (H0.out k hlt) (by simp)
      have c1 := HG.out.cell (H1.out k hlt) (by simp)
      have HF2 : Hid (firstAt (fun k => ws k == 0) n 0 = if (ws k == 0) = true then (k : Int) else firstAt (fun k => ws k == 0) (n - (k + 1)) (k + 1)) := by
        show _ = _
        rw [HF.out, show n - k = (n - (k + 1)) + 1 by omega, firstAt]
      clear HF
      have HS : Hid _ := fun (w' : World) => pro_del (xs k) (ws k) w'
      cases hb : (ws k == 0)
      · rw [hb] at HF2 HS
        simp only [Bool.false_eq_true, if_false] at HF2
        clear hb
        go_wp2_with fail
        refine (HS.out _).mono ?_
        rintro e w1 ⟨rfl, hg⟩
        have HG2 : Hid _ := grown_trans HG.out hg
        clear hg
        go_wp2
        exact ⟨⟨k + 1, by omega, by go_num, HF2, HG2⟩, by simp [intOf]; omega⟩
      · rw [hb] at HF2 HS
        simp only [if_true] at HF2
        clear hb
        go_wp2_with fail
        refine (HS.out _).mono ?_
        rintro e w1 ⟨rfl, hg⟩
        have HG2 : Hid _ := grown_trans HG.out hg
        clear hg
        go_wp2
        go_ret
        exact ⟨by rw [HF2.out]; rfl, HG2.out⟩
    · have hke : k = n := by omega
      subst hke
      rw [Nat.sub_self, firstAt] at HF
      go_wp2
      go_ret
      exact ⟨by rw [HF.out]; rfl, HG.out⟩

def nz (l : List (List UInt8 × Int)) : List (List UInt8 × Int) := l.filter fun t => !(t.2 == 0)

theorem R.tg_at (l : List (List UInt8 × Int)) (k : Nat) (hk : k < l.length) : (R.tgCells l)[k * 2]? = some (.string (R.str l[k].1)) ∧ (R.tgCells l)[k * 2 + 1]? = some (.int .i64 l[k].2) := by
  induction l generalizing k with
  | nil => simp at hk
  | cons t l ih =>
    have e : R.tgCells (t :: l) = [Value.string (R.str t.1), .int .i64 t.2] ++ R.tgCells l := by simp [R.tgCells]
    rw [e]
    match k with
    | 0 => exact ⟨rfl, rfl⟩
    | k + 1 =>
      have := ih k (by simpa using hk)
      rw [List.getElem?_append_right (by simp; omega), List.getElem?_append_right (by simp; omega)]
      simp only [List.length_cons, List.length_nil]
      rw [show (k + 1) * 2 - (0 + 1 + 1) = k * 2 by omega, show (k + 1) * 2 + 1 - (0 + 1 + 1) = k * 2 + 1 by omega]
      exact this
theorem R.tg_len (l : List (List UInt8 × Int)) : (R.tgCells l).length = l.length * 2 := by
  induction l with
  | nil => rfl
  | cons t l ih =>
    have e : R.tgCells (t :: l) = [Value.string (R.str t.1), .int .i64 t.2] ++ R.tgCells l := by simp [R.tgCells]
    rw [e, List.length_append, ih]; simp; omega

theorem first_spec (l : List (List UInt8 × Int)) : ∀ (n k : Nat), n + k = l.length → nz (l.take k) = l.take k →
    (firstAt (fun j => (l[j]?.map Prod.snd).getD 1 == 0) n k = -1 ∧ nz l = l) ∨ ∃ i : Nat, firstAt (fun j => (l[j]?.map Prod.snd).getD 1 == 0) n k = i ∧ i < l.length ∧ nz (l.take (i + 1)) = l.take i := by
  intro n
  induction n with
  | zero => intro k h hz; left; rw [List.take_of_length_le (by omega)] at hz; exact ⟨rfl, hz⟩
  | succ n ih =>
    intro k h hz
    have hk : k < l.length := by omega
    rw [firstAt]
    have e : (l[k]?.map Prod.snd).getD 1 = l[k].2 := by rw [List.getElem?_eq_getElem hk]; rfl
    rw [e]
    have ht : nz (l.take (k + 1)) = l.take k ++ (if (l[k].2 == 0) = true then [] else [l[k]]) := by
      rw [List.take_succ_eq_append_getElem hk]
      unfold nz at hz ⊢
      rw [List.filter_append, hz]
      congr 1
      by_cases h0 : (l[k].2 == 0) = true
      · rw [if_pos h0, List.filter_cons, if_neg (by rw [h0]; simp)]; rfl
      · rw [if_neg h0, List.filter_cons, if_pos (by simpa using h0)]; rfl
    by_cases h0 : (l[k].2 == 0) = true
    · rw [if_pos h0] at ht ⊢
      right; exact ⟨k, rfl, hk, by rw [ht, List.append_nil]⟩
    · rw [if_neg h0] at ht ⊢
      exact ih (k + 1) (by omega) (by rw [ht, List.take_succ_eq_append_getElem hk])

/-- The row in the midst of it: i are kept of the first j. -/
def DelAt (w : World) (g cap : Nat) (l : List (List UInt8 × Int)) (i j : Nat) : Prop :=
  ∃ cur : Array Value, w.heap[g]? = some (.cells cur 285 (0, 0)) ∧ cur.size = cap * 2 ∧ cur.toList.take (i * 2) = R.tgCells (nz (l.take j)) ∧
    ∀ (k : Nat) (hk : k < l.length), j ≤ k → cur[k * 2]? = some (Value.string (R.str l[k].1)) ∧ cur[k * 2 + 1]? = some (Value.int .i64 l[k].2)
theorem DelAt.keep {w w' : World} {g cap i j : Nat} {l : List (List UInt8 × Int)} (h : DelAt w g cap l i j) (hg : w.grownBy w' none) : DelAt w' g cap l i j := by
  obtain ⟨cur, h1, h2⟩ := h
  exact ⟨cur, keep_block h1 hg (by simp), h2⟩
theorem DelAt.skip {w : World} {g cap i j : Nat} {l : List (List UInt8 × Int)} (h : DelAt w g cap l i j) (hj : j < l.length) (h0 : l[j].2 = 0) : DelAt w g cap l i (j + 1) := by
  obtain ⟨cur, h1, h2, h3, h4⟩ := h
  refine ⟨cur, h1, h2, ?_, fun k hk hjk => h4 k hk (by omega)⟩
  rw [h3, List.take_succ_eq_append_getElem hj]
  unfold nz; rw [List.filter_append, List.filter_cons, if_neg (by simp [h0])]; simp
theorem DelAt.take {w : World} {g cap i j : Nat} {l : List (List UInt8 × Int)} (h : DelAt w g cap l i j) (hj : j < l.length) (hij : i < j) (hc : l.length ≤ cap) (h0 : l[j].2 ≠ 0) :
    DelAt ((w.setCell ⟨g, i * 2, none⟩ (.string (R.str l[j].1))).setCell ⟨g, i * 2 + 1, none⟩ (.int .i64 l[j].2)) g cap l (i + 1) (j + 1) := by
  obtain ⟨cur, h1, h2, h3, h4⟩ := h
  refine ⟨_, block_setCell (block_setCell h1 _) _, by simp [h2], ?_, fun k hk hjk => ?_⟩
  · have e : nz (l.take (j + 1)) = nz (l.take j) ++ [l[j]] := by
      rw [List.take_succ_eq_append_getElem hj]
      unfold nz; rw [List.filter_append, List.filter_cons, if_pos (by simpa using h0)]; rfl
    rw [e, R.tgCells_snoc, ← h3]
    have hl : i * 2 + 1 < cur.toList.length := by rw [Array.length_toList, h2]; omega
    rw [Array.toList_setIfInBounds, Array.toList_setIfInBounds]
    generalize cur.toList = cl at *
    apply List.ext_getElem?
    intro m
    rw [List.getElem?_take, List.getElem?_set, List.getElem?_set]
    by_cases hm : m < i * 2
    · rw [if_pos (by omega), if_neg (by omega), if_neg (by omega), List.getElem?_append_left (by rw [List.length_take]; omega), List.getElem?_take, if_pos hm]
    · have hlen : (cl.take (i * 2)).length = i * 2 := by rw [List.length_take]; omega
      rw [List.getElem?_append_right (by omega), hlen]
      by_cases hm2 : m = i * 2
      · subst hm2
        rw [if_pos (by omega), if_neg (by omega), if_pos rfl, if_pos (by omega), Nat.sub_self]; rfl
      · by_cases hm3 : m = i * 2 + 1
        · subst hm3
          rw [if_pos (by omega), if_pos rfl, if_pos (by simp; omega), show i * 2 + 1 - i * 2 = 1 by omega]; rfl
        · rw [if_neg (by omega), List.getElem?_eq_none (by simp; omega)]
  · have := h4 k hk (by omega)
    rw [Array.getElem?_setIfInBounds, Array.getElem?_setIfInBounds, if_neg (by omega), if_neg (by omega), Array.getElem?_setIfInBounds, Array.getElem?_setIfInBounds, if_neg (by omega), if_neg (by omega)]
    exact this
theorem DelAt.cells {w : World} {g cap i j : Nat} {l : List (List UInt8 × Int)} (h : DelAt w g cap l i j) (k : Nat) (hk : k < l.length) (hj : j ≤ k) : w.cell? ⟨g, k * 2, none⟩ = some (.string (R.str l[k].1)) ∧ w.cell? ⟨g, k * 2 + 1, none⟩ = some (.int .i64 l[k].2) := by
  obtain ⟨cur, h1, h2, h3, h4⟩ := h
  rw [cell_of_block h1, cell_of_block h1]; exact h4 k hk hj
theorem DelAt.any {w : World} {g cap i j : Nat} {l : List (List UInt8 × Int)} (h : DelAt w g cap l i j) (k : Nat) (hk : k < cap * 2) : (∃ x, w.cell? ⟨g, k, none⟩ = some x) ∧ w.frozen? ⟨g, k, none⟩ = false := by
  obtain ⟨cur, h1, h2, h3, h4⟩ := h
  refine ⟨?_, frozen_of_block h1⟩
  rw [cell_of_block h1]
  exact ⟨cur[k]'(by omega), Array.getElem?_eq_getElem (by omega)⟩

theorem setCells_block (b : Nat) : ∀ (vs : List Value) (o : Nat) (w : World) (cur : Array Value) (t : TypeId) (f : Nat × Nat), w.heap[b]? = some (.cells cur t f) →
    ∃ cur' : Array Value, (w.setCells b o vs).heap[b]? = some (.cells cur' t f) ∧ cur'.size = cur.size ∧ ∀ j, j < o → cur'[j]? = cur[j]? := by
  intro vs
  induction vs with
  | nil => intro o w cur t f h; exact ⟨cur, h, rfl, fun _ _ => rfl⟩
  | cons v vs ih =>
    intro o w cur t f h
    rw [World.setCells]
    obtain ⟨cur', h1, h2, h3⟩ := ih (o + 1) (w.setCell ⟨b, o, none⟩ v) (cur.setIfInBounds o v) t f (block_setCell h v)
    refine ⟨cur', h1, by rw [h2]; simp, fun j hj => ?_⟩
    rw [h3 j (by omega), Array.getElem?_setIfInBounds, if_neg (by omega)]
theorem grown_setCells (b : Nat) : ∀ (vs : List Value) (o : Nat) (w : World), w.grownBy (w.setCells b o vs) (some b) := by
  intro vs
  induction vs with
  | nil => intro o w; exact grown_refl _ _
  | cons v vs ih => intro o w; rw [World.setCells]; exact grown_trans (grown_setCell _ _ _ _) (ih _ _)
theorem DelAt.done {w : World} {g cap i j B n : Nat} {l : List (List UInt8 × Int)} (h : DelAt w g cap l i j) (hj : j = l.length) (hi : (nz l).length = i) (hB : B ≤ g) (hic : i ≤ cap) (hcm : cap ≤ maxLen) (vs : List Value) (hn : i * 2 ≤ n) :
    (w.setCells g n vs).ownsRow B 285 2 (.slice (some ⟨g, 0, none⟩) i cap) i (R.tgCells (nz l)) := by
  obtain ⟨cur, h1, h2, h3, _⟩ := h
  obtain ⟨cur', q1, q2, q3⟩ := setCells_block g vs n w cur _ _ h1
  subst hj
  rw [show l.take l.length = l from List.take_of_length_le (Nat.le_refl _)] at h3
  refine ⟨by rw [R.tg_len, hi], Or.inr ⟨g, cap, cur', rfl, hB, q1, hic, hcm, by rw [q2, h2], ?_⟩⟩
  rw [← h3]
  apply List.ext_getElem?
  intro m
  rw [List.getElem?_take, List.getElem?_take]
  by_cases hm : m < i * 2
  · rw [if_pos hm, if_pos hm, Array.getElem?_toList, Array.getElem?_toList, q3 m (by omega)]
  · rw [if_neg hm, if_neg hm]

theorem zc_len (n : Nat) : (Builtin.zeroCells #[Value.string ⟨#[]⟩, .int .i64 0] n).toList.length = n * 2 := by simp [Builtin.zeroCells]
theorem zc_one (n : Nat) : ∀ v ∈ (Builtin.zeroCells #[Value.string ⟨#[]⟩, .int .i64 0] n).toList, v.oneCell' = true := by
  intro v hv
  unfold Builtin.zeroCells at hv
  simp at hv
  obtain ⟨i, hi, rfl⟩ := hv
  have : i % 2 = 0 ∨ i % 2 = 1 := by omega
  rcases this with h | h <;> simp [h] <;> rfl
theorem run_clear_tg (w : World) (g o n c : Nat) (hn : 0 < n) (hc : ∀ j, j < n * 2 → (w.cell? ⟨g, o + j, none⟩).isSome = true) (hf : ∀ j, j < n * 2 → w.frozen? ⟨g, o + j, none⟩ = false) (ty : TypeId) :
    (Builtin.clear_ #[210] ty #[.slice (some ⟨g, o, none⟩) n c]).run Tryz.prog w = .ok (.tuple #[]) (w.setCells g o (Builtin.zeroCells #[Value.string ⟨#[]⟩, .int .i64 0] n).toList) := by
  have hst := run_storeCells_cells (P := Tryz.prog) g o (Builtin.zeroCells #[Value.string ⟨#[]⟩, .int .i64 0] n).toList 0 w (by rw [zc_len]; simpa using hc) (by rw [zc_len]; simpa using hf) (zc_one n)
  simp only [Nat.add_zero] at hst
  have ht : Tryz.prog.underlying 210 = some (.slice 285) := by kernel_rfl
  obtain ⟨m, rfl⟩ : ∃ m, n = m + 1 := ⟨n - 1, by omega⟩
  have hcl : (Value.agg #[.string ⟨#[]⟩, .int .i64 0]).cells = #[.string ⟨#[]⟩, .int .i64 0] := rfl
  simp [Builtin.clear_, run_underlying ht, hcl, hst]

set_option maxRecDepth 100000 in
set_option maxHeartbeats 2000000 in
theorem pro_DeleteFunc (w : World) (B : Nat) (v : Value) (l : List (List UInt8 × Int)) (hv : w.ownsRow B 285 2 v l.length (R.tgCells l)) (hn : l.length ≤ 2000000000000) (hpos : 0 < l.length) :
    Calls Tryz.prog 334 #[v, .func (.func 335) #[] #[]] w fun e w' => ∃ v', e = .returned v' ∧ w'.ownsRow B 285 2 v' (nz l).length (R.tgCells (nz l)) ∧ w.grownBy w' v.ownBlock := by
  obtain ⟨g, cap, rfl, hgB, hgl⟩ := World.ownsRow.form hv hpos
  have hcell : ∀ j, j < l.length * 2 → w.cell? ⟨g, j, none⟩ = (R.tgCells l)[j]? := fun j hj => World.ownsRow.cellAt hv j (by omega)
  have HI : Hid _ := fun (_ : Unit) => pro_IndexFunc_tg w g l.length cap (fun k => .string (R.str ((l[k]?.map Prod.fst).getD []))) (fun k => (l[k]?.map Prod.snd).getD 1) hn
    (fun k hk => by rw [hcell (k * 2) (by omega), (R.tg_at l k hk).1, List.getElem?_eq_getElem hk]; rfl)
    (fun k hk => by rw [hcell (k * 2 + 1) (by omega), (R.tg_at l k hk).2, List.getElem?_eq_getElem hk]; rfl)
  have HR : Hid _ := hv
  clear hcell hv
  rcases first_spec l l.length 0 (by omega) (by rfl) with ⟨h1, h2⟩ | ⟨i, h1, h2, h3⟩
  · rw [h1] at HI
    have HZ : Hid (nz l = l) := h2
    clear h1 h2
    go_enter Tryz.func334, Tryz.ntmps334
    go_wp2_with fail
    refine (HI.out ()).mono ?_
    rintro e w1 ⟨rfl, hg⟩
    go_wp2
    go_ret
    exact ⟨_, rfl, by rw [HZ.out]; exact World.ownsRow.kept HR.out hg (Or.inr (by simp [Value.ownBlock])), grown_wide hg _⟩
  · rw [h1] at HI
    have HZ : Hid (nz (l.take (i + 1)) = l.take i) := h3
    have hm1 : ((i : Int) == -1) = false := by rw [beq_eq_false_iff_ne]; omega
    clear h1 h3
    go_enter Tryz.func334, Tryz.ntmps334
    go_wp2_with fail
    refine (HI.out ()).mono ?_
    rintro e w1 ⟨rfl, hg⟩
    obtain ⟨hln, hrow⟩ := HR.out
    rcases hrow with ⟨hbad, _⟩ | ⟨g', cap', cur, hve, hB, hblk, hnc, hcm, hcs, htk⟩
    · cases hbad
    simp only [Value.slice.injEq, Option.some.injEq, Addr.mk.injEq] at hve
    obtain ⟨⟨rfl, _⟩, _, rfl⟩ := hve
    have HD0 : Hid (DelAt w1 g cap l i (i + 1)) := by
      refine DelAt.keep ⟨cur, hblk, hcs, ?_, fun k hk hik => ?_⟩ hg
      · rw [HZ.out]
        have : cur.toList.take (i * 2) = (cur.toList.take (l.length * 2)).take (i * 2) := by rw [List.take_take, Nat.min_eq_left (by omega)]
        rw [this, htk]
        apply List.ext_getElem?
        intro m
        rw [List.getElem?_take]
        by_cases hm : m < i * 2
        · rw [if_pos hm]
          have hk : m / 2 < l.length := by omega
          have hk2 : m / 2 < (l.take i).length := by rw [List.length_take]; omega
          have a1 := R.tg_at l (m / 2) hk
          have a2 := R.tg_at (l.take i) (m / 2) hk2
          rw [List.getElem_take] at a2
          have : m % 2 = 0 ∨ m % 2 = 1 := by omega
          rcases this with h | h
          · have e : m = m / 2 * 2 := by omega
            rw [e, a1.1, a2.1]
          · have e : m = m / 2 * 2 + 1 := by omega
            rw [e, a1.2, a2.2]
        · rw [if_neg hm, List.getElem?_eq_none (by rw [R.tg_len, List.length_take]; omega)]
      · have a := R.tg_at l k hk
        rw [← htk, List.getElem?_take, List.getElem?_take, if_pos (by omega), if_pos (by omega), Array.getElem?_toList, Array.getElem?_toList] at a
        exact a
    have HI0 : Hid ((nz (l.take (i + 1))).length = i) := by show _ = _; rw [HZ.out, List.length_take]; omega
    have HG0 : Hid (w.grownBy w1 (some g)) := grown_wide hg _
    clear hln hblk hcs htk hg HZ
    go_wp2
    go_loopw [5, 6] (fun iv jv wr => ∃ i j : Nat, i < j ∧ j ≤ l.length ∧ iv = .int .i64 i ∧ jv = .int .i64 j ∧ Hid ((nz (l.take j)).length = i) ∧ Hid (DelAt wr g cap l i j) ∧ Hid (w.grownBy wr (some g))) (fun _ jv _ => l.length - (intOf jv).toNat)
    case atStart => exact ⟨i, i + 1, by omega, by omega, rfl, by go_num, HI0, HD0, HG0⟩
    case round =>
      obtain ⟨i, j, hij, hjl, rfl, rfl, HIx, HD, HG⟩ := hrel
      by_cases hlt : j < l.length
      · obtain ⟨d0, d1⟩ := HD.out.cells j hlt (Nat.le_refl _)
        have HS : Hid _ := fun (w' : World) => pro_del (.string (R.str l[j].1)) l[j].2 w'
        have hgw : g < wr.heap.size := by obtain ⟨cur, h, _⟩ := HD.out; exact block_lt h
        by_cases h0 : l[j].2 = 0
        · have HD2 : Hid (DelAt wr g cap l i (j + 1)) := HD.out.skip hlt h0
          have HN2 : Hid ((nz (l.take (j + 1))).length = i) := by
            show _ = _
            rw [List.take_succ_eq_append_getElem hlt]; unfold nz; rw [List.filter_append, List.filter_cons, if_neg (by simp [h0])]; simpa [nz] using HIx.out
          have hb : (l[j].2 == 0) = true := by rw [h0]; rfl
          rw [hb] at HS
          clear hb h0
          generalize l[j] = t at *
          go_wp2_with fail
          refine (HS.out _).mono ?_
          rintro e w2 ⟨rfl, hg2⟩
          have hg3 : wr.grownBy w2 none := grown_trans (World.grownBy_alloc _ _ _) hg2
          have HD3 : Hid _ := HD2.out.keep hg3
          have HG3 : Hid _ := grown_trans HG.out (grown_wide hg3 _)
          clear hg2 hg3
          go_wp2
          exact ⟨⟨i, j + 1, by omega, by omega, rfl, by go_num, HN2, HD3, HG3⟩, by simp [intOf]; omega⟩
        · have HT : Hid (∀ w2, wr.grownBy w2 none → DelAt ((w2.setCell ⟨g, i * 2, none⟩ (.string (R.str l[j].1))).setCell ⟨g, i * 2 + 1, none⟩ (.int .i64 l[j].2)) g cap l (i + 1) (j + 1)) := fun w2 hg => (HD.out.keep hg).take hlt hij hnc h0
          have HN2 : Hid ((nz (l.take (j + 1))).length = i + 1) := by
            show _ = _
            rw [List.take_succ_eq_append_getElem hlt]; unfold nz; rw [List.filter_append, List.filter_cons, if_pos (by simpa using h0)]; simpa [nz] using HIx.out
          have hb : (l[j].2 == 0) = false := by rw [beq_eq_false_iff_ne]; exact h0
          rw [hb] at HS
          clear hb h0
          generalize l[j] = t at *
          go_wp2_with fail
          refine (HS.out _).mono ?_
          rintro e w2 ⟨rfl, hg2⟩
          have hg3 : wr.grownBy w2 none := grown_trans (World.grownBy_alloc _ _ _) hg2
          have hdk := HD.out.keep hg3
          obtain ⟨⟨x0, k0⟩, f0⟩ := hdk.any (i * 2) (by omega)
          obtain ⟨⟨x1, k1⟩, f1⟩ := hdk.any (i * 2 + 1) (by omega)
          have nb := new_block hg2 (by simp)
          have v0 : w2.cell? ⟨wr.heap.size, 0, none⟩ = some (.string (R.str t.1)) := cell_of_block nb
          have v1 : w2.cell? ⟨wr.heap.size, 1, none⟩ = some (.int .i64 t.2) := cell_of_block nb
          have HD3 : Hid _ := HT.out w2 hg3
          have HG3 : Hid (w.grownBy ((w2.setCell ⟨g, i * 2, none⟩ (.string (R.str t.1))).setCell ⟨g, i * 2 + 1, none⟩ (.int .i64 t.2)) (some g)) := grown_trans (grown_trans (grown_trans HG.out (grown_wide hg3 _)) (grown_setCell _ _ _ _)) (grown_setCell _ _ _ _)
          clear hg2 hg3 hdk nb HT
          go_wp2
          exact ⟨⟨i + 1, j + 1, by omega, by omega, by go_num, by go_num, HN2, HD3, HG3⟩, by simp [intOf]; omega⟩
      · have hje : j = l.length := by omega
        subst hje
        rw [show l.take l.length = l from List.take_of_length_le (Nat.le_refl _)] at HIx
        have hcl := run_clear_tg wr g (i * 2) (l.length - i) (cap - i) (by omega)
          (fun m hm => by obtain ⟨⟨x, hx⟩, _⟩ := HD.out.any (i * 2 + m) (by omega); rw [hx]; rfl)
          (fun m hm => (HD.out.any (i * 2 + m) (by omega)).2)
        have HO : Hid _ := HD.out.done (n := i * 2) rfl HIx.out hB (by omega) hcm (Builtin.zeroCells #[Value.string ⟨#[]⟩, .int .i64 0] (l.length - i)).toList (Nat.le_refl _)
        have HG2 : Hid _ := grown_trans HG.out (grown_setCells g (Builtin.zeroCells #[Value.string ⟨#[]⟩, .int .i64 0] (l.length - i)).toList (i * 2) wr)
        generalize (Builtin.zeroCells #[Value.string ⟨#[]⟩, .int .i64 0] (l.length - i)).toList = zs at *
        generalize World.setCells wr g (i * 2) zs = wz at *
        go_wp2
        go_ret
        exact ⟨_, rfl, by rw [HIx.out]; exact HO.out, HG2.out⟩

end Go.Proofs.YtfocdefchbnkpaaGreatDoor
