/- More methods of the document's own reader: a number, a path, a value, a header. -/
import Derived.Test.YtfocdefchbnkpaaGreatDoorRefE
import Derived.Deep.RegionWith
namespace Go.Proofs.YtfocdefchbnkpaaGreatDoor
open Go.RowKit

theorem R.num_snoc (s : ByteArray) (k : Nat) (h : k < s.size) : R.num (s.data.toList.take (k + 1)) = R.numStep (R.num (s.data.toList.take k)) s[k] := by
  rw [R.take_snoc s k h]; unfold R.num; rw [List.foldl_append]; rfl

set_option maxRecDepth 100000 in
set_option maxHeartbeats 1000000 in
theorem ref_number (a c : Value) (s : ByteArray) (w : World) (hs : s.size ≤ 3000) :
    Calls Tryz.prog 132 #[.agg #[a, .string s, c]] w fun e w' => e = .returned (.int .i64 (R.num s.data.toList)) ∧ w.grownBy w' none := by
  go_enter Tryz.func132, Tryz.ntmps132
  go_wp2
  go_loop [3, 4] (fun n i => ∃ k : Nat, k ≤ s.size ∧ i = .int .i64 k ∧ n = .int .i64 (R.num (s.data.toList.take k))) (fun _ i => s.size - (intOf i).toNat)
  case atStart => exact ⟨0, Nat.zero_le _, rfl, rfl⟩
  case round =>
    obtain ⟨k, hk, rfl, rfl⟩ := hrel
    by_cases hlt : k < s.size
    · have HN : Hid _ := R.num_snoc s k hlt
      generalize R.num (s.data.toList.take k) = n at *
      generalize hb : s[k] = b at *
      go_wp2
      exact ⟨⟨k + 1, by omega, by go_num, by rw [HN.out]; rfl⟩, by simp [intOf]; omega⟩
    · go_wp2
      go_ret
      exact ⟨by rw [List.take_of_length_le (by rw [R.size_eq]; omega)]; rfl, World.grownBy_alloc _ _ _⟩

theorem grown_drew (w : World) : w.grownBy w.drew none := ⟨rfl, rfl, rfl, Nat.le_refl _, fun _ _ _ => rfl⟩

/-- The token at hand. -/
def R.cur (ts : List R.Tok) (st : R.St) : R.Tok := ts.getD st.K ⟨0, [], 0⟩
theorem RInv.cur {w : World} {rb g cap : Nat} {ts : List R.Tok} {st : R.St} {H : Value} (h : RInv w rb g cap ts st H) : ts[st.K]? = some (R.cur ts st) := by
  unfold R.cur
  rw [List.getD_eq_getElem?_getD, List.getElem?_eq_getElem h.lt]; rfl
theorem RInv.curlen {w : World} {rb g cap : Nat} {ts : List R.Tok} {st : R.St} {H : Value} (h : RInv w rb g cap ts st H) : (R.str (R.cur ts st).s).size ≤ 3000 := by
  rw [R.str_size]; exact h.ok.strs _ _ h.cur

def R.needS (ts : List R.Tok) (st : R.St) (s : List UInt8) : R.St := R.overS (R.cur ts st) st (R.isB st (R.cur ts st) s)
def R.kindS (ts : List R.Tok) (st : R.St) (k : Int) : R.St := R.overS (R.cur ts st) st ((R.cur ts st).k == k)

theorem ref_needS {w : World} {rb g cap : Nat} {ts : List R.Tok} {st : R.St} {H : Value} (h : RInv w rb g cap ts st H) (s : ByteArray) :
    Calls Tryz.prog 84 #[.pointer (some ⟨rb, 0, none⟩), .string s] w fun e w' => e = .returned (.agg #[.int .u8 (R.cur ts st).k, .string (R.str (R.cur ts st).s), .int .i64 (R.cur ts st).at_]) ∧ RInv w' rb g cap ts (R.needS ts st s.data.toList) H ∧ w.grownBy w' (some rb) :=
  ref_need h h.cur s
theorem ref_kindS {w : World} {rb g cap : Nat} {ts : List R.Tok} {st : R.St} {H : Value} (h : RInv w rb g cap ts st H) (k : Int) (hk0 : k ≠ 0) (hk1 : k ≠ 120) :
    Calls Tryz.prog 86 #[.pointer (some ⟨rb, 0, none⟩), .int .u8 k] w fun e w' => e = .returned (.agg #[.int .u8 (R.cur ts st).k, .string (R.str (R.cur ts st).s), .int .i64 (R.cur ts st).at_]) ∧ RInv w' rb g cap ts (R.kindS ts st k) H ∧ w.grownBy w' (some rb) :=
  ref_kind h h.cur k hk0 hk1
theorem ref_isS {w : World} {rb g cap : Nat} {ts : List R.Tok} {st : R.St} {H : Value} (h : RInv w rb g cap ts st H) (s : ByteArray) :
    Calls Tryz.prog 89 #[.pointer (some ⟨rb, 0, none⟩), .string s] w fun e w' => e = .returned (.bool (R.isB st (R.cur ts st) s.data.toList)) ∧ w.grownBy w' none :=
  ref_is h h.cur s

/-- A token's box, behind a call that wrote the reader alone. -/
theorem tokbox {w1 w2 : World} {a b c : Value} {rb : Nat} (hg : (w1.alloc (.cells #[a, b, c] 115)).grownBy w2 (some rb)) (h : rb < w1.heap.size) :
    w2.cell? ⟨w1.heap.size, 0, none⟩ = some a ∧ w2.cell? ⟨w1.heap.size, 1, none⟩ = some b ∧ w2.cell? ⟨w1.heap.size, 2, none⟩ = some c := by
  have n1 := new_block hg (by simp; omega)
  exact ⟨cell_of_block n1, cell_of_block n1, cell_of_block n1⟩

def R.pathS (ts : List R.Tok) (st : R.St) : List UInt8 × R.St :=
  ((R.cur ts st).s, R.notS (R.kindS ts st 34) (R.path (R.cur ts st).s) 4 (R.cur ts st).at_)

set_option maxRecDepth 100000 in
set_option maxHeartbeats 1000000 in
theorem ref_path {w : World} {rb g cap : Nat} {ts : List R.Tok} {st : R.St} {H : Value} (h : RInv w rb g cap ts st H) :
    Calls Tryz.prog 133 #[.pointer (some ⟨rb, 0, none⟩)] w fun e w' => e = .returned (.string (R.str (R.pathS ts st).1)) ∧ RInv w' rb g cap ts (R.pathS ts st).2 H ∧ w.grownBy w' (some rb) := by
  have hl := h.curlen
  have hl2 : (R.str (R.cur ts st).s).size ≤ maxLen := by unfold maxLen; omega
  have HP : Hid (R.pathS ts st = ((R.cur ts st).s, R.notS (R.kindS ts st 34) (R.path (R.cur ts st).s) 4 (R.cur ts st).at_)) := rfl
  have H0 : Hid _ := h
  have HL : Hid _ := hl2
  generalize R.pathS ts st = r at *
  clear h hl hl2
  go_enter Tryz.func133, Tryz.ntmps133
  go_wp2_with fail
  refine (ref_kindS H0.out 34 (by decide) (by decide)).mono ?_
  rintro e w1 ⟨rfl, I1, hg1⟩
  have b1 := block_lt I1.rd
  have J1 : Hid _ := I1
  clear I1
  go_wp2_with fail
  refine (ref_Path _ _ HL.out).mono ?_
  rintro e w1' ⟨rfl, rfl⟩
  go_wp2_with fail
  refine (ref_not (J1.out.keep (World.grownBy_alloc _ _ _)) _ _ _ _ _).mono ?_
  rintro e w2 ⟨rfl, I2, hg2⟩
  obtain ⟨q0, q1, q2⟩ := tokbox hg2 b1
  have J2 : Hid _ := I2
  clear I2
  have HG : Hid (w.grownBy w2 (some rb)) := grown_trans hg1 (grown_trans (World.grownBy_alloc _ _ _) hg2)
  clear hg1 hg2
  go_wp2
  go_ret
  rw [R.str_toList] at J2
  exact ⟨by rw [HP.out]; rfl, by rw [HP.out]; exact J2.out, HG.out⟩

def R.valueS (ts : List R.Tok) (st : R.St) : List UInt8 × R.St :=
  ((R.cur ts (R.needS ts st [61])).s, R.notS (R.kindS ts (R.needS ts st [61]) 34) (R.value (R.cur ts (R.needS ts st [61])).s) 4 (R.cur ts (R.needS ts st [61])).at_)

set_option maxRecDepth 100000 in
set_option maxHeartbeats 1000000 in
theorem ref_value {w : World} {rb g cap : Nat} {ts : List R.Tok} {st : R.St} {H : Value} (h : RInv w rb g cap ts st H) :
    Calls Tryz.prog 191 #[.pointer (some ⟨rb, 0, none⟩)] w fun e w' => e = .returned (.string (R.str (R.valueS ts st).1)) ∧ RInv w' rb g cap ts (R.valueS ts st).2 H ∧ w.grownBy w' (some rb) := by
  have HP : Hid (R.valueS ts st = ((R.cur ts (R.needS ts st [61])).s, R.notS (R.kindS ts (R.needS ts st [61]) 34) (R.value (R.cur ts (R.needS ts st [61])).s) 4 (R.cur ts (R.needS ts st [61])).at_)) := rfl
  have H0 : Hid _ := h
  generalize R.valueS ts st = r at *
  clear h
  go_enter Tryz.func191, Tryz.ntmps191
  go_wp2_with fail
  refine (ref_needS H0.out _).mono ?_
  rintro e w0 ⟨rfl, I0, hg0⟩
  rw [show (⟨#[61]⟩ : ByteArray).data.toList = [61] from rfl] at I0
  have J0 : Hid _ := I0
  clear I0
  generalize R.needS ts st [61] = st0 at *
  have hl := J0.out.curlen
  have HL : Hid ((R.str (R.cur ts st0).s).size ≤ maxLen) := by show _ ≤ _; unfold maxLen; omega
  clear hl
  go_wp2_with fail
  refine (ref_kindS J0.out 34 (by decide) (by decide)).mono ?_
  rintro e w1 ⟨rfl, I1, hg1⟩
  have b1 := block_lt I1.rd
  have J1 : Hid _ := I1
  clear I1
  go_wp2_with fail
  refine (ref_Value _ _ HL.out).mono ?_
  rintro e w1' ⟨rfl, rfl⟩
  go_wp2_with fail
  refine (ref_not (J1.out.keep (World.grownBy_alloc _ _ _)) _ _ _ _ _).mono ?_
  rintro e w2 ⟨rfl, I2, hg2⟩
  obtain ⟨q0, q1, q2⟩ := tokbox hg2 b1
  have J2 : Hid _ := I2
  clear I2
  have HG : Hid (w.grownBy w2 (some rb)) := grown_trans hg0 (grown_trans hg1 (grown_trans (World.grownBy_alloc _ _ _) hg2))
  clear hg0 hg1 hg2
  go_wp2
  go_ret
  rw [R.str_toList] at J2
  exact ⟨by rw [HP.out]; rfl, by rw [HP.out]; exact J2.out, HG.out⟩

/-- The names that a name must not be one of. -/
def R.among (l : List (List UInt8)) (s : List UInt8) (p : Int) (st : R.St) : R.St := l.foldl (fun st a => R.notS st (decide (a ≠ s)) 5 p) st
def R.headerS (ts : List R.Tok) (st : R.St) (l : List (List UInt8)) : List UInt8 × R.St :=
  (R.lower (R.cur ts st).s, R.among l (R.lower (R.cur ts st).s) (R.cur ts st).at_ (R.notS (R.kindS ts st 34) (R.header (R.cur ts st).s true) 4 (R.cur ts st).at_))

/-- Strings in a row, as they lie. -/
def R.strCells (l : List (List UInt8)) : List Value := l.map fun s => .string (R.str s)
/-- A list of strings in memory, at whatever block other than the reader's. -/
def StrRow (w : World) (v : Value) (l : List (List UInt8)) : Prop := w.ownsRow 0 9 1 v l.length (R.strCells l)

set_option maxRecDepth 100000 in
set_option maxHeartbeats 1000000 in
theorem ref_header {w : World} {rb g cap : Nat} {ts : List R.Tok} {st : R.St} {H : Value} (h : RInv w rb g cap ts st H) (v : Value) (l : List (List UInt8)) (hv : StrRow w v l) (hn : l.length ≤ 10000) (hne : v.ownBlock ≠ some rb) :
    Calls Tryz.prog 190 #[.pointer (some ⟨rb, 0, none⟩), v] w fun e w' => e = .returned (.string (R.str (R.headerS ts st l).1)) ∧ RInv w' rb g cap ts (R.headerS ts st l).2 H ∧ w.grownBy w' (some rb) := by
  have hl := h.curlen
  have HL : Hid ((R.str (R.cur ts st).s).size ≤ 100000) := by show _ ≤ _; omega
  have HP : Hid (R.headerS ts st l = (R.lower (R.cur ts st).s, R.among l (R.lower (R.cur ts st).s) (R.cur ts st).at_ (R.notS (R.kindS ts st 34) (R.header (R.cur ts st).s true) 4 (R.cur ts st).at_))) := rfl
  have H0 : Hid _ := h
  have HV : Hid _ := hv
  generalize R.headerS ts st l = r at *
  clear h hv hl
  go_enter Tryz.func190, Tryz.ntmps190
  go_wp2_with fail
  refine (ref_kindS H0.out 34 (by decide) (by decide)).mono ?_
  rintro e w1 ⟨rfl, I1, hg1⟩
  have b1 := block_lt I1.rd
  have J1 : Hid _ := I1
  clear I1
  go_wp2_with fail
  refine (ref_Header _ _ _ HL.out).mono ?_
  rintro e w2 ⟨rfl, hb2⟩
  have hg2 := grown_of_below hb2
  obtain ⟨q0, q1, q2⟩ := tokbox (grown_wide hg2 (some rb)) b1
  have J2 : Hid _ := (J1.out.keep (World.grownBy_alloc _ _ _)).keep hg2
  clear hb2
  go_wp2_with fail
  refine (ref_not J2.out _ _ _ _ _).mono ?_
  rintro e w3 ⟨rfl, I3, hg3⟩
  rw [R.str_toList] at I3
  have J3 : Hid _ := I3
  clear I3 q0 q1 q2
  have hg23 := grown_trans (grown_wide hg2 (some rb)) hg3
  obtain ⟨q0, q1, q2⟩ := tokbox hg23 b1
  go_wp2_with fail
  refine (ref_Lower _ _ HL.out).mono ?_
  rintro e w4 ⟨rfl, hb4⟩
  have hg4 := grown_of_below hb4
  have J4 : Hid _ := J3.out.keep hg4
  have HN4 : Hid (w4.heap[w1.heap.size]? = some _) := keep_block (new_block hg23 (by simp; omega)) hg4 (by simp)
  have HG : Hid (w.grownBy w4 (some rb)) := grown_trans hg1 (grown_trans (grown_trans (World.grownBy_alloc w1 _ _) hg23) (grown_wide hg4 _))
  rw [R.str_toList]
  clear hb4 hg1 hg2 hg3 hg4 hg23 q0 q1 q2
  have HV4 : Hid (StrRow w4 v l) := HV.out.kept HG.out (Or.inr hne)
  generalize R.notS (R.kindS ts st 34) (R.header (R.cur ts st).s true) 4 (R.cur ts st).at_ = st4 at *
  have hSz : (R.str (R.lower (R.cur ts st).s)).size ≤ 3000 := by rw [R.str_size, lower_len]; exact H0.out.ok.strs _ _ H0.out.cur
  generalize hlo : R.lower (R.cur ts st).s = lo at *
  generalize R.cur ts st = t at *
  go_wp2_with fail
  go_loopw [8] (fun i wr => ∃ k : Nat, k ≤ l.length ∧ i = .int .i64 k ∧ Hid (RInv wr rb g cap ts (R.among (l.take k) lo t.at_ st4) H) ∧ Hid (w4.grownBy wr (some rb))) (fun i _ => l.length - (intOf i).toNat)
  case atStart => exact ⟨0, Nat.zero_le _, rfl, J4, grown_refl _ _⟩
  case round =>
    obtain ⟨k, hk, rfl, IR, HR⟩ := hrel
    have hlen : v.ownBlock = none ∧ l = [] ∧ v = .slice none 0 0 ∨ ∃ gv cv, v = .slice (some ⟨gv, 0, none⟩) l.length cv ∧ w4.ownsRow 0 9 1 (.slice (some ⟨gv, 0, none⟩) l.length cv) l.length (R.strCells l) := by
      rcases HV4.out with ⟨h1, h2 | ⟨gv, cv, cur, rfl, h3⟩⟩
      · left; refine ⟨by rw [h2.1]; rfl, ?_, h2.1⟩; have := h2.2; exact List.length_eq_zero_iff.1 this
      · right; exact ⟨gv, cv, rfl, HV4.out⟩
    rcases hlen with ⟨_, rfl, rfl⟩ | ⟨gv, cv, rfl, hrow⟩
    · have hk0 : k = 0 := by simpa using hk
      subst hk0
      go_wp2
      go_ret
      exact ⟨by rw [HP.out]; rfl, by rw [HP.out]; exact IR.out, grown_trans HG.out HR.out⟩
    · by_cases hlt : k < l.length
      · have c1 : wr.cell? ⟨gv, k, none⟩ = some (.string (R.str l[k])) := by
          have hc := hrow.cellAt k (by omega)
          rw [HR.out.cell (a := ⟨gv, k, none⟩) (v := .string (R.str l[k])) (by rw [hc]; unfold R.strCells; simp [hlt]) (by simpa [Value.ownBlock] using hne)]
        obtain ⟨q0, q1, q2⟩ : wr.cell? ⟨w1.heap.size, 0, none⟩ = some (.int .u8 t.k) ∧ wr.cell? ⟨w1.heap.size, 1, none⟩ = some (.string (R.str t.s)) ∧ wr.cell? ⟨w1.heap.size, 2, none⟩ = some (.int .i64 t.at_) := by
          have n1 := keep_block HN4.out HR.out (by simp; omega)
          exact ⟨cell_of_block n1, cell_of_block n1, cell_of_block n1⟩
        have hq : ((R.str l[k]).toList == (R.str lo).toList) = decide (l[k] = lo) := by
          rw [toLs, ByteArray.toList_eq, R.str_toList]
        have HA : Hid (R.among (l.take (k + 1)) lo t.at_ st4 = R.notS (R.among (l.take k) lo t.at_ st4) (!decide (l[k] = lo)) 5 t.at_) := by
          show R.among _ _ _ _ = _
          unfold R.among; rw [List.take_succ_eq_append_getElem hlt, List.foldl_append, ← decide_not]; rfl
        generalize decide (l[k] = lo) = bb at *
        generalize R.str l[k] = lk at *
        generalize R.among (l.take k) lo t.at_ st4 = stk at *
        go_wp2
        go_region_with (go_at_call 85; refine (ref_not (IR.out.keep (grown_drew wr)) _ _ _ _ _).mono ?_; rintro e w5 ⟨rfl, I5, hg5⟩)
        all_goals
          rw [← HA.out] at I5
          have J5 : Hid _ := I5
          have HG5 : Hid _ := grown_trans HR.out (grown_trans (grown_wide (grown_drew wr) _) hg5)
          clear I5 hg5
          go_wp2
          exact ⟨⟨k + 1, by omega, by go_num, J5, HG5⟩, by simp [intOf]; omega⟩
      · go_wp2
        go_ret
        exact ⟨by rw [HP.out]; rfl, by rw [HP.out]; rw [List.take_of_length_le (by omega)] at IR; exact IR.out, grown_trans HG.out HR.out⟩

end Go.Proofs.YtfocdefchbnkpaaGreatDoor
