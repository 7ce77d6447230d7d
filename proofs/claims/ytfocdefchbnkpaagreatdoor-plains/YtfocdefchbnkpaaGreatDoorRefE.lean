/- The reader of the document's own answer, in memory: its tokens, the place, the first wrong place, the first fault; and its smallest methods. -/
import Derived.Test.YtfocdefchbnkpaaGreatDoorRefC
import Derived.RegionTactic
import Derived.BigRegion
import Derived.ChangeAlike
import Derived.Laws.ResultCell
import Derived.Deep.QuietTactic
import Derived.BigQuiet
namespace Go.Proofs.YtfocdefchbnkpaaGreatDoor
open Go.RowKit

/-- What a reader says besides its tokens and its hosts. -/
structure R.St where
  K : Nat
  bad : Int
  E : Int
  at_ : Int

def R.Tok.val (t : R.Tok) : Value := .agg #[.int .u8 t.k, .string (R.str t.s), .int .i64 t.at_]

/-- A number out of a token's bytes, as the machine reckons it. -/
def R.numStep (n : Int) (c : UInt8) : Int := wrap64 (wrap64 (10 * n) + ((c.toNat : Int) - 48) % 256)
def R.num (l : List UInt8) : Int := l.foldl R.numStep 0

/-- What holds of the tokens of a text: behind one that is neither the end nor a wrong one there is another; there are not many; each is short; a number's is small. -/
structure R.Ok (ts : List R.Tok) : Prop where
  goes : ∀ (k : Nat) (t : R.Tok), ts[k]? = some t → t.k ≠ 0 → t.k ≠ 120 → k + 1 < ts.length
  len : ts.length ≤ 4000
  strs : ∀ (k : Nat) (t : R.Tok), ts[k]? = some t → t.s.length ≤ 3000
  nums : ∀ (k : Nat) (t : R.Tok), ts[k]? = some t → t.k = 49 → 0 ≤ R.num t.s ∧ R.num t.s ≤ 99999

/-- The reader at block rb, its tokens at block g. -/
structure RInv (w : World) (rb g cap : Nat) (ts : List R.Tok) (st : R.St) (H : Value) : Prop where
  rd : w.heap[rb]? = some (.cells #[.slice (some ⟨g, 0, none⟩) ts.length cap, .int .i64 st.K, .int .i64 st.bad, .int .i64 st.E, .int .i64 st.at_, H] 113 (0, 0))
  tk : ∃ cur, w.heap[g]? = some (.cells cur 115 (0, 0)) ∧ cur.toList.take (ts.length * 3) = R.tokCells ts
  ne : g ≠ rb
  lt : st.K < ts.length
  ok : R.Ok ts

theorem grown_trans {a b c : World} {row : Option Nat} (h : a.grownBy b row) (k : b.grownBy c row) : a.grownBy c row :=
  ⟨k.os.trans h.os, k.tape.trans h.tape, k.output.trans h.output, Nat.le_trans h.size k.size, fun i hi hn => (k.block i (Nat.lt_of_lt_of_le hi h.size) hn).trans (h.block i hi hn)⟩
theorem grown_wide {a b : World} (h : a.grownBy b none) (row : Option Nat) : a.grownBy b row :=
  ⟨h.os, h.tape, h.output, h.size, fun i hi _ => h.block i hi (by simp)⟩
theorem grown_refl (w : World) (row : Option Nat) : w.grownBy w row := ⟨rfl, rfl, rfl, Nat.le_refl _, fun _ _ _ => rfl⟩
theorem grown_of_below {w w' : World} (h : Below w.heap.size w w') : w.grownBy w' none := ⟨h.os, h.tape, h.output, h.size, fun k hk _ => h.block k hk⟩
theorem below_of_grown {w w' : World} (h : w.grownBy w' none) : Below w.heap.size w w' := ⟨h.os, h.tape, h.output, h.size, fun k hk => h.block k hk (by simp)⟩

theorem block_lt {w : World} {b : Nat} {o : Obj} (h : w.heap[b]? = some o) : b < w.heap.size := (Array.getElem?_eq_some_iff.1 h).1

theorem RInv.keep {w w' : World} {rb g cap : Nat} {ts : List R.Tok} {st : R.St} {H : Value} (h : RInv w rb g cap ts st H) (hg : w.grownBy w' none) : RInv w' rb g cap ts st H := by
  refine ⟨?_, ?_, h.ne, h.lt, h.ok⟩
  · rw [hg.block rb (block_lt h.rd) (by simp)]; exact h.rd
  · obtain ⟨cur, h1, h2⟩ := h.tk
    exact ⟨cur, by rw [hg.block g (block_lt h1) (by simp)]; exact h1, h2⟩

theorem cell_of_block {w : World} {b i : Nat} {cs : Array Value} {t : TypeId} {f : Nat × Nat} (h : w.heap[b]? = some (.cells cs t f)) : w.cell? ⟨b, i, none⟩ = cs[i]? :=
  cell_of_row w b i cs t f h
theorem frozen_of_block {w : World} {b i : Nat} {cs : Array Value} {t : TypeId} (h : w.heap[b]? = some (.cells cs t (0, 0))) : w.frozen? ⟨b, i, none⟩ = false := by
  unfold World.frozen?
  simp [h]

theorem R.tokCells_at (ts : List R.Tok) (k : Nat) (h : k < ts.length) (j : Nat) (hj : j < 3) : (R.tokCells ts)[k * 3 + j]? = (ts[k].cells)[j]? := by
  induction ts generalizing k with
  | nil => simp at h
  | cons t ts ih =>
    have e : R.tokCells (t :: ts) = t.cells ++ R.tokCells ts := by simp [R.tokCells]
    rw [e]
    have el : t.cells.length = 3 := rfl
    match k with
    | 0 => rw [List.getElem?_append_left (by rw [el]; omega)]; simp
    | k + 1 =>
      rw [List.getElem?_append_right (by rw [el]; omega), el, show (k + 1) * 3 + j - 3 = k * 3 + j by omega, ih k (by simpa using h)]; rfl

theorem RInv.tok {w : World} {rb g cap : Nat} {ts : List R.Tok} {st : R.St} {H : Value} (h : RInv w rb g cap ts st H) (k : Nat) (hk : k < ts.length) (j : Nat) (hj : j < 3) : w.cell? ⟨g, k * 3 + j, none⟩ = (ts[k].cells)[j]? := by
  obtain ⟨cur, h1, h2⟩ := h.tk
  rw [cell_of_block h1, ← R.tokCells_at ts k hk j hj, ← h2, List.getElem?_take, if_pos (by omega)]
  simp

theorem RInv.tok? {w : World} {rb g cap : Nat} {ts : List R.Tok} {st : R.St} {H : Value} (h : RInv w rb g cap ts st H) {t : R.Tok} (ht : ts[st.K]? = some t) :
    w.cell? ⟨g, st.K * 3, none⟩ = some (.int .u8 t.k) ∧ w.cell? ⟨g, st.K * 3 + 1, none⟩ = some (.string (R.str t.s)) ∧ w.cell? ⟨g, st.K * 3 + 2, none⟩ = some (.int .i64 t.at_) := by
  have hl := h.lt
  have e : ts[st.K] = t := by rw [List.getElem?_eq_getElem hl] at ht; exact Option.some.inj ht
  have t0 := h.tok st.K hl 0 (by omega)
  have t1 := h.tok st.K hl 1 (by omega)
  have t2 := h.tok st.K hl 2 (by omega)
  rw [e] at t0 t1 t2
  exact ⟨t0, t1, t2⟩
theorem RInv.gl {w : World} {rb g cap : Nat} {ts : List R.Tok} {st : R.St} {H : Value} (h : RInv w rb g cap ts st H) : g < w.heap.size := by
  obtain ⟨_, h1, _⟩ := h.tk; exact block_lt h1

set_option maxRecDepth 100000 in
set_option maxHeartbeats 1000000 in
theorem ref_now {w : World} {rb g cap : Nat} {ts : List R.Tok} {st : R.St} {H : Value} (h : RInv w rb g cap ts st H) {t : R.Tok} (ht : ts[st.K]? = some t) :
    Calls Tryz.prog 51 #[.pointer (some ⟨rb, 0, none⟩)] w fun e w' => e = .returned (.agg #[.int .u8 t.k, .string (R.str t.s), .int .i64 t.at_]) ∧ w.grownBy w' none := by
  have c0 : w.cell? ⟨rb, 0, none⟩ = some (.slice (some ⟨g, 0, none⟩) ts.length cap) := cell_of_block h.rd
  have c1 : w.cell? ⟨rb, 1, none⟩ = some (.int .i64 st.K) := cell_of_block h.rd
  obtain ⟨t0, t1, t2⟩ := h.tok? ht
  have hlt := h.lt
  have hsm := h.ok.len
  have brb := block_lt h.rd
  have bg := h.gl
  clear ht
  generalize st.K = k at *
  generalize ts.length = n at *
  clear h
  go_enter Tryz.func51, Tryz.ntmps51
  go_wp2
  go_region
  go_wp2
  exact bodyPost_ret (v := .agg #[.int .u8 t.k, .string (R.str t.s), .int .i64 t.at_]) (by simp [results, Tryz.results51, go_sem]) rfl ⟨rfl, grown_of_below (((Below.refl _ _).alloc (Nat.le_refl _) _).drew)⟩

def R.isB (st : R.St) (t : R.Tok) (s : List UInt8) : Bool := decide (st.bad < 0) && ((t.k == 119 || t.k == 115) && decide (t.s = s))

set_option maxRecDepth 100000 in
set_option maxHeartbeats 1000000 in
theorem ref_is {w : World} {rb g cap : Nat} {ts : List R.Tok} {st : R.St} {H : Value} (h : RInv w rb g cap ts st H) {t : R.Tok} (ht : ts[st.K]? = some t) (s : ByteArray) :
    Calls Tryz.prog 89 #[.pointer (some ⟨rb, 0, none⟩), .string s] w fun e w' => e = .returned (.bool (R.isB st t s.data.toList)) ∧ w.grownBy w' none := by
  have HI : Hid (R.isB st t s.data.toList = (decide (st.bad < 0) && ((t.k == 119 || t.k == 115) && decide (t.s = s.data.toList)))) := rfl
  have hq : ((R.str t.s).toList == s.toList) = decide (t.s = s.data.toList) := by rw [ByteArray.toList_eq, ByteArray.toList_eq, R.str_toList, Bool.eq_iff_iff]; simp
  generalize decide (t.s = s.data.toList) = b3 at *
  by_cases hb : st.bad < 0
  · cases h1 : (t.k == 119) <;> cases h2 : (t.k == 115)
    all_goals
      rw [h1, h2, decide_eq_true hb] at HI
      go_enter Tryz.func89, Tryz.ntmps89
      go_wp2_with (go_at_call 51; refine (ref_now h ht).mono ?_; rintro e w1 ⟨rfl, hg⟩; have c2 : w1.cell? ⟨rb, 2, none⟩ = some (.int .i64 st.bad) := cell_of_block (h.keep hg).rd; have brb := block_lt (h.keep hg).rd)
      go_ret
      exact ⟨ret_bool (by rw [HI.out]; try rfl), grown_of_below ((below_of_grown hg).alloc hg.size _)⟩
  · rw [decide_eq_false hb] at HI
    go_enter Tryz.func89, Tryz.ntmps89
    go_wp2_with (go_at_call 51; refine (ref_now h ht).mono ?_; rintro e w1 ⟨rfl, hg⟩; have c2 : w1.cell? ⟨rb, 2, none⟩ = some (.int .i64 st.bad) := cell_of_block (h.keep hg).rd; have brb := block_lt (h.keep hg).rd)
    go_ret
    exact ⟨ret_bool (by rw [HI.out]; try rfl), grown_of_below ((below_of_grown hg).alloc hg.size _)⟩

/-- The reader goes on, or stands at a wrong token. -/
def R.overS (t : R.Tok) (st : R.St) (ok : Bool) : R.St :=
  if 0 ≤ st.bad then st else if ok then { st with K := st.K + 1 } else { st with bad := t.at_ }

def R.notS (st : R.St) (ok : Bool) (e a : Int) : R.St :=
  if ok = false ∧ st.E = 0 ∧ st.bad < 0 then { st with E := e, at_ := a } else st

theorem block_setCell {w : World} {b i : Nat} {cs : Array Value} {t : TypeId} {f : Nat × Nat} (h : w.heap[b]? = some (.cells cs t f)) (v : Value) : (w.setCell ⟨b, i, none⟩ v).heap[b]? = some (.cells (cs.setIfInBounds i v) t f) := by
  simp only [World.setCell, Array.getElem?_modify, if_pos, h]
  simp
theorem field_tok (a b c : Value) (w : World) : (Instr.field 115 (.agg #[a, b, c]) 2).run Tryz.prog w = .ok c w := by kernel_rfl

theorem grown_setCell (w : World) (b i : Nat) (v : Value) : w.grownBy (w.setCell ⟨b, i, none⟩ v) (some b) := by
  refine ⟨rfl, rfl, rfl, by simp [World.setCell], fun k hk hn => ?_⟩
  exact Below.heap_setCell _ _ _ _ (fun e => hn (by rw [e]))

theorem RInv.put {w w' : World} {rb g cap : Nat} {ts : List R.Tok} {st st' : R.St} {H H' : Value} (h : RInv w rb g cap ts st H) (hg : w.grownBy w' (some rb))
    (hr : w'.heap[rb]? = some (.cells #[.slice (some ⟨g, 0, none⟩) ts.length cap, .int .i64 st'.K, .int .i64 st'.bad, .int .i64 st'.E, .int .i64 st'.at_, H'] 113 (0, 0))) (hl : st'.K < ts.length) : RInv w' rb g cap ts st' H' := by
  refine ⟨hr, ?_, h.ne, hl, h.ok⟩
  obtain ⟨cur, h1, h2⟩ := h.tk
  exact ⟨cur, by rw [hg.block g (block_lt h1) (by simpa using h.ne)]; exact h1, h2⟩

set_option maxRecDepth 100000 in
set_option maxHeartbeats 1000000 in
theorem ref_over {w : World} {rb g cap : Nat} {ts : List R.Tok} {st : R.St} {H : Value} (h : RInv w rb g cap ts st H) {t : R.Tok} (ht : ts[st.K]? = some t) (ok : Bool) (hok : ok = true → st.bad < 0 → st.K + 1 < ts.length) :
    Calls Tryz.prog 130 #[.pointer (some ⟨rb, 0, none⟩), .bool ok] w fun e w' => e = .returned (.tuple #[]) ∧ RInv w' rb g cap ts (R.overS t st ok) H ∧ w.grownBy w' (some rb) := by
  have c2 : w.cell? ⟨rb, 2, none⟩ = some (.int .i64 st.bad) := cell_of_block h.rd
  have c1 : w.cell? ⟨rb, 1, none⟩ = some (.int .i64 st.K) := cell_of_block h.rd
  have f1 : w.frozen? ⟨rb, 1, none⟩ = false := frozen_of_block h.rd
  have brb := block_lt h.rd
  have hlt := h.lt
  have hsm := h.ok.len
  by_cases hb : 0 ≤ st.bad
  · have HO : Hid (R.overS t st ok = st) := by show R.overS t st ok = st; unfold R.overS; rw [if_pos hb]
    go_enter Tryz.func130, Tryz.ntmps130
    go_wp2
    exact bodyPost_ret (v := .tuple #[]) (results_none Tryz.results130 _ _ _) rfl ⟨rfl, by rw [HO.out]; exact h, grown_refl _ _⟩
  · cases ok
    · have HO : Hid (R.overS t st false = { st with bad := t.at_ }) := by show R.overS t st false = _; unfold R.overS; rw [if_neg hb]; rfl
      have hft := field_tok
      go_enter Tryz.func130, Tryz.ntmps130
      go_wp2_with (go_at_call 51; refine (ref_now h ht).mono ?_; rintro e w1 ⟨rfl, hg⟩; have f2 : w1.frozen? ⟨rb, 2, none⟩ = false := frozen_of_block (h.keep hg).rd; have c3 : w1.cell? ⟨rb, 2, none⟩ = some (.int .i64 st.bad) := cell_of_block (h.keep hg).rd)
      go_end0
      refine ⟨rfl, ?_, grown_trans (grown_wide hg _) (grown_setCell _ _ _ _)⟩
      rw [HO.out]
      exact (h.keep hg).put (grown_setCell _ _ _ _) (block_setCell (h.keep hg).rd _) hlt
    · have HK : Hid (st.K + 1 < ts.length) := hok rfl (by omega)
      clear hok
      have HO : Hid (R.overS t st true = { st with K := st.K + 1 }) := by show R.overS t st true = _; unfold R.overS; rw [if_neg hb]; rfl
      go_enter Tryz.func130, Tryz.ntmps130
      go_wp2
      go_end0
      refine ⟨rfl, ?_, grown_setCell _ _ _ _⟩
      rw [HO.out]
      exact h.put (grown_setCell _ _ _ _) (block_setCell h.rd _) HK.out

set_option maxRecDepth 100000 in
set_option maxHeartbeats 1000000 in
theorem ref_not {w : World} {rb g cap : Nat} {ts : List R.Tok} {st : R.St} {H : Value} (h : RInv w rb g cap ts st H) (ok : Bool) (e0 : Int) (a b : Value) (p : Int) :
    Calls Tryz.prog 85 #[.pointer (some ⟨rb, 0, none⟩), .bool ok, .int .i64 e0, .agg #[a, b, .int .i64 p]] w fun e w' => e = .returned (.tuple #[]) ∧ RInv w' rb g cap ts (R.notS st ok e0 p) H ∧ w.grownBy w' (some rb) := by
  have c2 : w.cell? ⟨rb, 2, none⟩ = some (.int .i64 st.bad) := cell_of_block h.rd
  have c3 : w.cell? ⟨rb, 3, none⟩ = some (.int .i64 st.E) := cell_of_block h.rd
  have c4 : w.cell? ⟨rb, 4, none⟩ = some (.int .i64 st.at_) := cell_of_block h.rd
  have f3 : w.frozen? ⟨rb, 3, none⟩ = false := frozen_of_block h.rd
  have f4 : w.frozen? ⟨rb, 4, none⟩ = false := frozen_of_block h.rd
  have brb := block_lt h.rd
  have hlt := h.lt
  have hsm := h.ok.len
  have hal : w.grownBy (w.alloc (.cells #[a, b, .int .i64 p] 115)) none := World.grownBy_alloc _ _ _
  have hk := h.keep hal
  cases ok
  · by_cases hE : st.E = 0
    · have hE2 : (st.E == 0) = true := by rw [hE]; rfl
      by_cases hb : st.bad < 0
      · have HO : Hid (R.notS st false e0 p = { st with E := e0, at_ := p }) := by show R.notS st false e0 p = _; unfold R.notS; rw [if_pos ⟨rfl, hE, hb⟩]
        clear hE
        go_enter Tryz.func85, Tryz.ntmps85
        go_wp2
        go_end0
        have hg2 : w.grownBy (((w.setCell ⟨rb, 3, none⟩ (.int .i64 e0)).setCell ⟨rb, 4, none⟩ (.int .i64 p)).alloc (.cells #[a, b, .int .i64 p] 115)) (some rb) :=
          grown_trans (grown_trans (grown_setCell _ _ _ _) (grown_setCell _ _ _ _)) (World.grownBy_alloc _ _ _)
        refine ⟨rfl, ?_, hg2⟩
        rw [HO.out]
        refine h.put hg2 ?_ hlt
        rw [Below.heap_alloc _ _ _ (by simp [World.setCell]; exact brb)]
        exact block_setCell (block_setCell h.rd _) _
      · have HO : Hid (R.notS st false e0 p = st) := by show R.notS st false e0 p = _; unfold R.notS; rw [if_neg (fun h => hb h.2.2)]
        clear hE
        go_enter Tryz.func85, Tryz.ntmps85
        go_wp2
        go_end0
        exact ⟨rfl, by rw [HO.out]; exact hk, grown_wide hal _⟩
    · have hE2 : (st.E == 0) = false := by rw [beq_eq_false_iff_ne]; exact hE
      have HO : Hid (R.notS st false e0 p = st) := by show R.notS st false e0 p = _; unfold R.notS; rw [if_neg (fun h => hE h.2.1)]
      clear hE
      go_enter Tryz.func85, Tryz.ntmps85
      go_wp2
      go_end0
      exact ⟨rfl, by rw [HO.out]; exact hk, grown_wide hal _⟩
  · have HO : Hid (R.notS st true e0 p = st) := by show R.notS st true e0 p = _; unfold R.notS; rw [if_neg (fun h => absurd h.1 (by simp))]
    go_enter Tryz.func85, Tryz.ntmps85
    go_wp2
    go_end0
    exact ⟨rfl, by rw [HO.out]; exact hk, grown_wide hal _⟩

theorem new_block {w w' : World} {o : Obj} {row : Option Nat} (h : (w.alloc o).grownBy w' row) (hr : some w.heap.size ≠ row) : w'.heap[w.heap.size]? = some o := by
  rw [h.block w.heap.size (by simp) hr]; exact heap_alloc_new w o
theorem keep_block {w w' : World} {o : Obj} {b : Nat} {row : Option Nat} (h : w.heap[b]? = some o) (hg : w.grownBy w' row) (hr : some b ≠ row) : w'.heap[b]? = some o := by
  rw [hg.block b (block_lt h) hr]; exact h
theorem World.heap_alloc_size (w : World) (o : Obj) : (w.alloc o).heap.size = w.heap.size + 1 := by simp

theorem RInv.other {w w' : World} {rb g cap b : Nat} {ts : List R.Tok} {st : R.St} {H : Value} (h : RInv w rb g cap ts st H) (hg : w.grownBy w' (some b)) (h1 : b ≠ rb) (h2 : b ≠ g) : RInv w' rb g cap ts st H := by
  refine ⟨?_, ?_, h.ne, h.lt, h.ok⟩
  · rw [hg.block rb (block_lt h.rd) (by simpa using fun e => h1 e.symm)]; exact h.rd
  · obtain ⟨cur, h3, h4⟩ := h.tk
    exact ⟨cur, by rw [hg.block g (block_lt h3) (by simpa using fun e => h2 e.symm)]; exact h3, h4⟩
theorem grown_new {a b c : World} {row : Option Nat} {k : Nat} (h : a.grownBy b row) (hk : b.grownBy c (some k)) (hn : a.heap.size ≤ k) : a.grownBy c row :=
  ⟨hk.os.trans h.os, hk.tape.trans h.tape, hk.output.trans h.output, Nat.le_trans h.size hk.size, fun i hi hr => (hk.block i (Nat.lt_of_lt_of_le hi h.size) (by simp; omega)).trans (h.block i hi hr)⟩

set_option maxRecDepth 100000 in
set_option maxHeartbeats 1000000 in
theorem ref_need {w : World} {rb g cap : Nat} {ts : List R.Tok} {st : R.St} {H : Value} (h : RInv w rb g cap ts st H) {t : R.Tok} (ht : ts[st.K]? = some t) (s : ByteArray) :
    Calls Tryz.prog 84 #[.pointer (some ⟨rb, 0, none⟩), .string s] w fun e w' => e = .returned (.agg #[.int .u8 t.k, .string (R.str t.s), .int .i64 t.at_]) ∧ RInv w' rb g cap ts (R.overS t st (R.isB st t s.data.toList)) H ∧ w.grownBy w' (some rb) := by
  have hok : R.isB st t s.data.toList = true → st.bad < 0 → st.K + 1 < ts.length := by
    intro hi _
    unfold R.isB at hi
    simp only [Bool.and_eq_true, Bool.or_eq_true, beq_iff_eq] at hi
    exact h.ok.goes st.K t ht (by omega) (by omega)
  have hIs := fun {w : World} (h : RInv w rb g cap ts st H) => ref_is h ht s
  generalize R.isB st t s.data.toList = ib at *
  have HOK : Hid _ := hok
  have HIS : Hid _ := @hIs
  have HT : Hid _ := ht
  clear hok hIs ht
  have H0 : Hid _ := h
  have brb := block_lt h.rd
  have bg := h.gl
  have hne := h.ne
  have hlt := h.lt
  clear h
  go_enter Tryz.func84, Tryz.ntmps84
  go_wp2_with fail
  refine (ref_now (H0.out.keep (World.grownBy_alloc _ _ _)) HT.out).mono ?_
  rintro e w1 ⟨rfl, hg1⟩
  have I1 : Hid (RInv w1 rb g cap ts st H) := (H0.out.keep (World.grownBy_alloc _ _ _)).keep hg1
  go_wp2_with fail
  refine (HIS.out (I1.out.keep (World.grownBy_alloc _ _ _))).mono ?_
  rintro e w2 ⟨rfl, hg2⟩
  have I2 : Hid (RInv w2 rb g cap ts st H) := (I1.out.keep (World.grownBy_alloc _ _ _)).keep hg2
  go_wp2_with fail
  refine (ref_over I2.out HT.out ib HOK.out).mono ?_
  rintro e w3 ⟨rfl, I3, hg3⟩
  have J3 : Hid _ := I3
  clear I3
  have k1 := hg1.size
  have k2 := hg2.size
  have k3 := hg3.size
  simp only [World.heap_alloc_size] at k1 k2
  have n1 := keep_block (new_block hg2 (by simp)) hg3 (by simp; omega)
  have n0 := keep_block (keep_block (keep_block (new_block hg1 (by simp)) (World.grownBy_alloc w1 _ none) (by simp)) hg2 (by simp)) hg3 (by simp; omega)
  have q10 : w3.cell? ⟨w1.heap.size, 0, none⟩ = some (.int .u8 t.k) := cell_of_block n1
  have q11 : w3.cell? ⟨w1.heap.size, 1, none⟩ = some (.string (R.str t.s)) := cell_of_block n1
  have q12 : w3.cell? ⟨w1.heap.size, 2, none⟩ = some (.int .i64 t.at_) := cell_of_block n1
  have q00 : w3.cell? ⟨w.heap.size, 0, none⟩ = some (.int .u8 0) := cell_of_block n0
  have q01 : w3.cell? ⟨w.heap.size, 1, none⟩ = some (.string ⟨#[]⟩) := cell_of_block n0
  have q02 : w3.cell? ⟨w.heap.size, 2, none⟩ = some (.int .i64 0) := cell_of_block n0
  have f0 : w3.frozen? ⟨w.heap.size, 0, none⟩ = false := frozen_of_block n0
  have f1 : w3.frozen? ⟨w.heap.size, 1, none⟩ = false := frozen_of_block n0
  have f2 : w3.frozen? ⟨w.heap.size, 2, none⟩ = false := frozen_of_block n0
  have HG : Hid (w.grownBy w3 (some rb)) := grown_trans (grown_wide (grown_trans (grown_trans (grown_trans (World.grownBy_alloc w _ none) hg1) (World.grownBy_alloc w1 _ none)) hg2) _) hg3
  clear n0 n1 hg1 hg2 hg3
  go_wp2
  have hs3 := grown_trans (grown_trans (grown_setCell w3 w.heap.size 0 (.int .u8 t.k)) (grown_setCell _ w.heap.size 1 (.string (R.str t.s)))) (grown_setCell _ w.heap.size 2 (.int .i64 t.at_))
  exact bodyPost_ret (v := .agg #[.int .u8 t.k, .string (R.str t.s), .int .i64 t.at_]) (by simp [results, Tryz.results84, go_sem, q00, q01, q02]) rfl
    ⟨rfl, J3.out.other hs3 (by omega) (by omega), grown_new HG.out hs3 (Nat.le_refl _)⟩

set_option maxRecDepth 100000 in
set_option maxHeartbeats 1000000 in
theorem ref_kind {w : World} {rb g cap : Nat} {ts : List R.Tok} {st : R.St} {H : Value} (h : RInv w rb g cap ts st H) {t : R.Tok} (ht : ts[st.K]? = some t) (k : Int) (hk0 : k ≠ 0) (hk1 : k ≠ 120) :
    Calls Tryz.prog 86 #[.pointer (some ⟨rb, 0, none⟩), .int .u8 k] w fun e w' => e = .returned (.agg #[.int .u8 t.k, .string (R.str t.s), .int .i64 t.at_]) ∧ RInv w' rb g cap ts (R.overS t st (t.k == k)) H ∧ w.grownBy w' (some rb) := by
  have hok : (t.k == k) = true → st.bad < 0 → st.K + 1 < ts.length := by
    intro hi _
    rw [beq_iff_eq] at hi
    exact h.ok.goes st.K t ht (by rw [hi]; exact hk0) (by rw [hi]; exact hk1)
  have HOK : Hid _ := hok
  have HT : Hid _ := ht
  clear hok ht hk0 hk1
  have H0 : Hid _ := h
  have brb := block_lt h.rd
  have bg := h.gl
  have hne := h.ne
  have hlt := h.lt
  clear h
  go_enter Tryz.func86, Tryz.ntmps86
  go_wp2_with fail
  refine (ref_now (H0.out.keep (World.grownBy_alloc _ _ _)) HT.out).mono ?_
  rintro e w1 ⟨rfl, hg1⟩
  have I1 : Hid (RInv w1 rb g cap ts st H) := (H0.out.keep (World.grownBy_alloc _ _ _)).keep hg1
  go_wp2_with fail
  refine (ref_over (I1.out.keep (World.grownBy_alloc _ _ _)) HT.out (t.k == k) HOK.out).mono ?_
  rintro e w3 ⟨rfl, I3, hg3⟩
  have J3 : Hid _ := I3
  clear I3
  have k1 := hg1.size
  have k3 := hg3.size
  simp only [World.heap_alloc_size] at k1 k3
  have n1 := new_block hg3 (by simp; omega)
  have n0 := keep_block (keep_block (new_block hg1 (by simp)) (World.grownBy_alloc w1 _ none) (by simp)) hg3 (by simp; omega)
  have q10 : w3.cell? ⟨w1.heap.size, 0, none⟩ = some (.int .u8 t.k) := cell_of_block n1
  have q11 : w3.cell? ⟨w1.heap.size, 1, none⟩ = some (.string (R.str t.s)) := cell_of_block n1
  have q12 : w3.cell? ⟨w1.heap.size, 2, none⟩ = some (.int .i64 t.at_) := cell_of_block n1
  have q00 : w3.cell? ⟨w.heap.size, 0, none⟩ = some (.int .u8 0) := cell_of_block n0
  have q01 : w3.cell? ⟨w.heap.size, 1, none⟩ = some (.string ⟨#[]⟩) := cell_of_block n0
  have q02 : w3.cell? ⟨w.heap.size, 2, none⟩ = some (.int .i64 0) := cell_of_block n0
  have f0 : w3.frozen? ⟨w.heap.size, 0, none⟩ = false := frozen_of_block n0
  have f1 : w3.frozen? ⟨w.heap.size, 1, none⟩ = false := frozen_of_block n0
  have f2 : w3.frozen? ⟨w.heap.size, 2, none⟩ = false := frozen_of_block n0
  have HG : Hid (w.grownBy w3 (some rb)) := grown_trans (grown_wide (grown_trans (grown_trans (World.grownBy_alloc w _ none) hg1) (World.grownBy_alloc w1 _ none)) _) hg3
  clear n0 n1 hg1 hg3
  go_wp2
  have hs3 := grown_trans (grown_trans (grown_setCell w3 w.heap.size 0 (.int .u8 t.k)) (grown_setCell _ w.heap.size 1 (.string (R.str t.s)))) (grown_setCell _ w.heap.size 2 (.int .i64 t.at_))
  exact bodyPost_ret (v := .agg #[.int .u8 t.k, .string (R.str t.s), .int .i64 t.at_]) (by simp [results, Tryz.results86, go_sem, q00, q01, q02]) rfl
    ⟨rfl, J3.out.other hs3 (by omega) (by omega), grown_new HG.out hs3 (Nat.le_refl _)⟩

end Go.Proofs.YtfocdefchbnkpaaGreatDoor
