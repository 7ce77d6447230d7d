/- A rule, as the document's own reader reads it. -/
import Derived.Test.YtfocdefchbnkpaaGreatDoorRefI
namespace Go.Proofs.YtfocdefchbnkpaaGreatDoor
open Go.RowKit

/-- Two lists, place by place. -/
inductive All2 {α β : Type} (R : α → β → Prop) : List α → List β → Prop
  | nil : All2 R [] []
  | cons {a : α} {b : β} {l : List α} {m : List β} (h : R a b) (t : All2 R l m) : All2 R (a :: l) (b :: m)

structure R.Rl where
  number : Int
  path : List UInt8
  ms : List R.Mt
  tg : List (List UInt8 × Int)
  change : Bool
  to : List UInt8
  sets : List (List UInt8 × List UInt8)
  drops : List (List UInt8)

/-- A rule's eight cells say this rule. -/
def RuleVal (w : World) (cells : List Value) (r : R.Rl) : Prop :=
  ∃ vM vT vS vD, cells = [.int .i64 r.number, .string (R.str r.path), vM, vT, .bool r.change, .string (R.str r.to), vS, vD] ∧
    w.ownsRow 0 181 3 vM r.ms.length (R.mtCells r.ms) ∧ w.ownsRow 0 183 2 vT r.tg.length (R.tgCells r.tg) ∧
    w.ownsRow 0 185 2 vS r.sets.length (R.fdCells r.sets) ∧ w.ownsRow 0 9 1 vD r.drops.length (R.strCells r.drops)

/-- A list of rules in memory. -/
def RulesRow (w : World) (v : Value) (rs : List R.Rl) : Prop :=
  ∃ css : List (List Value), w.ownsRow 0 126 8 v rs.length css.flatten ∧ All2 (RuleVal w) css rs

def R.wRule : List UInt8 := [114, 117, 108, 101]
def R.wPath : List UInt8 := [112, 97, 116, 104]
def R.wReplace : List UInt8 := [114, 101, 112, 108, 97, 99, 101]
def R.amongN (l : List Int) (n : Int) (p : Int) (st : R.St) : R.St := l.foldl (fun st a => R.notS st (!decide (a = n)) 5 p) st
/-- The state ahead of the rule's bracket, and its number. -/
def R.rlA2 (ts : List R.Tok) (s2 : R.St) (others : List Int) : Int × R.St :=
  (R.num (R.cur ts s2).s, R.amongN others (R.num (R.cur ts s2).s) (R.cur ts s2).at_ (R.notS (R.kindS ts s2 49) (decide (R.num (R.cur ts s2).s ≤ 65535)) 4 (R.cur ts s2).at_))
def R.rlA (ts : List R.Tok) (st : R.St) (i : Nat) (others : List Int) : Int × R.St :=
  R.rlA2 ts (R.notS (R.needS ts st R.wRule) (decide ((i : Int) < 6)) 3 (R.cur ts st).at_) others
def R.rlB (ts : List R.Tok) (st : R.St) : List UInt8 × R.St :=
  ((R.pathS ts (R.needS ts (R.needS ts st [123]) R.wPath)).1, R.needS ts (R.pathS ts (R.needS ts (R.needS ts st [123]) R.wPath)).2 [59])
def R.rlC (ts : List R.Tok) (st : R.St) : List UInt8 × R.St :=
  if R.isB st (R.cur ts st) R.wReplace then ((R.pathS ts (R.needS ts st R.wReplace)).1, R.needS ts (R.pathS ts (R.needS ts st R.wReplace)).2 [59]) else ([], st)
def R.ruleE (ts : List R.Tok) (n : Int) (p : List UInt8) (m : List R.Mt) (t : List (List UInt8 × Int) × R.St) : R.Rl × R.St :=
  (⟨n, p, m, t.1, R.isB t.2 (R.cur ts t.2) R.wReplace, (R.rlC ts t.2).1, (R.editsS ts (R.rlC ts t.2).2).1.1, (R.editsS ts (R.rlC ts t.2).2).1.2⟩, R.needS ts (R.editsS ts (R.rlC ts t.2).2).2 [125])
def R.ruleT (ts : List R.Tok) (a : Int × R.St) : R.Rl × R.St :=
  R.ruleE ts a.1 (R.rlB ts a.2).1 (R.matchesS ts (R.rlB ts a.2).2).1 (R.targetsS ts (R.matchesS ts (R.rlB ts a.2).2).2)
def R.ruleS (ts : List R.Tok) (st : R.St) (i : Nat) (others : List Int) : R.Rl × R.St := R.ruleT ts (R.rlA ts st i others)

theorem rules_number {w : World} {css : List (List Value)} {rs : List R.Rl} (h : All2 (RuleVal w) css rs) (k : Nat) (hk : k < rs.length) : css.flatten[k * 8]? = some (.int .i64 rs[k].number) := by
  induction h generalizing k with
  | nil => simp at hk
  | @cons c r cs rs hc _ ih =>
    obtain ⟨vM, vT, vS, vD, rfl, _⟩ := hc
    match k with
    | 0 => rfl
    | k + 1 =>
      rw [List.flatten_cons, List.getElem?_append_right (by simp; omega)]
      have := ih k (by simpa using hk)
      simp only [List.length_cons, List.length_nil]
      rw [show (k + 1) * 8 - (0 + 1 + 1 + 1 + 1 + 1 + 1 + 1 + 1) = k * 8 by omega]
      exact this

/-- What a call keeps that writes the reader and one block more. -/
theorem own_kept2 {w w' : World} {a b B : Nat} {e : TypeId} {s : Nat} {v : Value} {n : Nat} {xs : List Value} (h : w.ownsRow B e s v n xs) (hk : Kept2 w w' a b) (h1 : ∀ k, v.ownBlock = some k → k ≠ a ∧ k ≠ b) : w'.ownsRow B e s v n xs := by
  refine ⟨h.1, ?_⟩
  rcases h.2 with h2 | ⟨g, cap, cur, rfl, h3, h4, r⟩
  · exact Or.inl h2
  · have := h1 g rfl
    exact Or.inr ⟨g, cap, cur, rfl, h3, by rw [hk.block g (block_lt h4) this.1 this.2]; exact h4, r⟩
theorem grown_kept2 {a b c : World} {x y : Nat} (h : a.grownBy b (some x)) (hk : Kept2 b c x y) (hy : a.heap.size ≤ y) : a.grownBy c (some x) :=
  ⟨hk.os.trans h.os, hk.tape.trans h.tape, hk.output.trans h.output, Nat.le_trans h.size hk.size, fun i hi hr => (hk.block i (Nat.lt_of_lt_of_le hi h.size) (by simpa using hr) (by omega)).trans (h.block i hi hr)⟩

set_option maxRecDepth 100000 in
set_option maxHeartbeats 4000000 in
theorem ref_rule {w : World} {rb g cap : Nat} {ts : List R.Tok} {st : R.St} {H : Value} (h : RInv w rb g cap ts st H) (i : Nat) (v : Value) (rs : List R.Rl) (hv : RulesRow w v rs) (hrl : rs.length ≤ 10000) (hvr : v.ownBlock ≠ some rb) :
    Calls Tryz.prog 90 #[.pointer (some ⟨rb, 0, none⟩), .int .i64 i, v] w fun e w' => ∃ cs, e = .returned (.agg cs.toArray) ∧ RInv w' rb g cap ts (R.ruleS ts st i (rs.map R.Rl.number)).2 H ∧ w.grownBy w' (some rb) ∧ RuleVal w' cs (R.ruleS ts st i (rs.map R.Rl.number)).1 := by
  have HP : Hid (R.ruleS ts st i (rs.map R.Rl.number) = R.ruleT ts (R.rlA ts st i (rs.map R.Rl.number))) := rfl
  have H0 : Hid _ := h
  have brb : rb < w.heap.size := block_lt h.rd
  have hgl : g < w.heap.size := h.gl
  obtain ⟨css, hrow, hall⟩ := hv
  have HRow : Hid _ := hrow
  have HAll : Hid _ := hall
  obtain ⟨ua, uc, rfl⟩ := len_row hrow
  generalize R.ruleS ts st i (rs.map R.Rl.number) = r at *
  clear h hrow hall
  go_enter Tryz.func90, Tryz.ntmps90
  have C0 : Hid (w.grownBy w (some rb)) := grown_refl _ _
  go_wp2_with fail
  refine (ref_needS (H0.out.keep (World.grownBy_alloc _ _ _)) _).mono ?_
  rintro e w1 ⟨rfl, I1, hg1⟩
  have J1 : Hid _ := I1
  have b1 : rb < w1.heap.size := block_lt J1.out.rd
  have s1 : w.heap.size + 1 ≤ w1.heap.size := by have h := hg1.size; simpa using h
  have G1 : Hid (w.grownBy w1 (some rb)) := (grown_trans (World.grownBy_alloc _ _ _) hg1)
  have C1 : Hid (w.grownBy w1 (some rb)) := grown_trans C0.out G1.out
  have z1 : w.heap.size ≤ w1.heap.size := C1.out.size
  have RB_1 : Hid (w1.heap[w.heap.size]? = some (.cells #[.int .i64 0, .string ⟨#[]⟩, .slice none 0 0, .slice none 0 0, .bool false, .string ⟨#[]⟩, .slice none 0 0, .slice none 0 0] 126)) := new_block hg1 (by simp; omega)
  clear hg1 I1
  go_wp2_with fail
  refine (ref_not (J1.out.keep (World.grownBy_alloc _ _ _)) _ _ _ _ _).mono ?_
  rintro e w2 ⟨rfl, I2, hg2⟩
  have J2 : Hid _ := I2
  have b2 : rb < w2.heap.size := block_lt J2.out.rd
  have s2 : w1.heap.size + 1 ≤ w2.heap.size := by have h := hg2.size; simpa using h
  have G2 : Hid (w1.grownBy w2 (some rb)) := (grown_trans (World.grownBy_alloc _ _ _) hg2)
  have C2 : Hid (w.grownBy w2 (some rb)) := grown_trans C1.out G2.out
  have z2 : w.heap.size ≤ w2.heap.size := C2.out.size
  have RB_2 : Hid (w2.heap[w.heap.size]? = some (.cells #[.int .i64 0, .string ⟨#[]⟩, .slice none 0 0, .slice none 0 0, .bool false, .string ⟨#[]⟩, .slice none 0 0, .slice none 0 0] 126)) := keep_block RB_1.out G2.out (by simp; omega)
  clear hg2 I2
  have JW : Hid (RInv w2 rb g cap ts (R.notS (R.needS ts st R.wRule) (decide ((i : Int) < 6)) 3 (R.cur ts st).at_) H) := J2
  have HAe : Hid (R.rlA ts st i (rs.map R.Rl.number) = R.rlA2 ts (R.notS (R.needS ts st R.wRule) (decide ((i : Int) < 6)) 3 (R.cur ts st).at_) (rs.map R.Rl.number)) := rfl
  generalize R.notS (R.needS ts st R.wRule) (decide ((i : Int) < 6)) 3 (R.cur ts st).at_ = st2 at *
  have HTs : Hid ((R.str (R.cur ts st2).s).size ≤ 3000) := JW.out.curlen
  go_wp2_with fail
  refine (ref_kindS JW.out 49 (by decide) (by decide)).mono ?_
  rintro e w3 ⟨rfl, I3, hg3⟩
  have J3 : Hid _ := I3
  have b3 : rb < w3.heap.size := block_lt J3.out.rd
  have s3 : w2.heap.size + 0 ≤ w3.heap.size := by have h := hg3.size; simpa using h
  have G3 : Hid (w2.grownBy w3 (some rb)) := hg3
  have C3 : Hid (w.grownBy w3 (some rb)) := grown_trans C2.out G3.out
  have z3 : w.heap.size ≤ w3.heap.size := C3.out.size
  have RB_3 : Hid (w3.heap[w.heap.size]? = some (.cells #[.int .i64 0, .string ⟨#[]⟩, .slice none 0 0, .slice none 0 0, .bool false, .string ⟨#[]⟩, .slice none 0 0, .slice none 0 0] 126)) := keep_block RB_2.out G3.out (by simp; omega)
  clear hg3 I3
  go_wp2_with fail
  refine (ref_number _ _ _ _ HTs.out).mono ?_
  rintro e w4 ⟨rfl, gg4⟩
  have hg4 := grown_wide gg4 (some rb)
  have J4 : Hid _ := ((J3.out.keep (World.grownBy_alloc _ _ _))).keep gg4
  have b4 : rb < w4.heap.size := block_lt J4.out.rd
  have s4 : w3.heap.size + 1 ≤ w4.heap.size := by have h := hg4.size; simpa using h
  have G4 : Hid (w3.grownBy w4 (some rb)) := (grown_trans (World.grownBy_alloc _ _ _) hg4)
  have C4 : Hid (w.grownBy w4 (some rb)) := grown_trans C3.out G4.out
  have z4 : w.heap.size ≤ w4.heap.size := C4.out.size
  have RB_4 : Hid (w4.heap[w.heap.size]? = some (.cells #[.int .i64 0, .string ⟨#[]⟩, .slice none 0 0, .slice none 0 0, .bool false, .string ⟨#[]⟩, .slice none 0 0, .slice none 0 0] 126)) := keep_block RB_3.out G4.out (by simp; omega)
  have T8_4 : Hid (w4.heap[w3.heap.size]? = some (.cells #[.int .u8 (R.cur ts st2).k, .string (R.str (R.cur ts st2).s), .int .i64 (R.cur ts st2).at_] 115)) := new_block hg4 (by simp; omega)
  clear hg4 gg4
  rw [R.str_toList]
  have HAf : Hid (R.rlA2 ts st2 (rs.map R.Rl.number) = (R.num (R.cur ts st2).s, R.amongN (rs.map R.Rl.number) (R.num (R.cur ts st2).s) (R.cur ts st2).at_ (R.notS (R.kindS ts st2 49) (decide (R.num (R.cur ts st2).s ≤ 65535)) 4 (R.cur ts st2).at_))) := rfl
  generalize hnum : R.num (R.cur ts st2).s = num at *
  have qT8l : w3.heap.size < w4.heap.size := block_lt T8_4.out
  have qT80 : w4.cell? ⟨w3.heap.size, 0, none⟩ = some (.int .u8 (R.cur ts st2).k) := cell_of_block T8_4.out
  have qT81 : w4.cell? ⟨w3.heap.size, 1, none⟩ = some (.string (R.str (R.cur ts st2).s)) := cell_of_block T8_4.out
  have qT82 : w4.cell? ⟨w3.heap.size, 2, none⟩ = some (.int .i64 (R.cur ts st2).at_) := cell_of_block T8_4.out
  go_wp2_with fail
  refine (ref_not (J4.out.keep (World.grownBy_alloc _ _ _)) _ _ _ _ _).mono ?_
  rintro e w5 ⟨rfl, I5, hg5⟩
  have J5 : Hid _ := I5
  have b5 : rb < w5.heap.size := block_lt J5.out.rd
  have s5 : w4.heap.size + 1 ≤ w5.heap.size := by have h := hg5.size; simpa using h
  have G5 : Hid (w4.grownBy w5 (some rb)) := (grown_trans (World.grownBy_alloc _ _ _) hg5)
  have C5 : Hid (w.grownBy w5 (some rb)) := grown_trans C4.out G5.out
  have z5 : w.heap.size ≤ w5.heap.size := C5.out.size
  have RB_5 : Hid (w5.heap[w.heap.size]? = some (.cells #[.int .i64 0, .string ⟨#[]⟩, .slice none 0 0, .slice none 0 0, .bool false, .string ⟨#[]⟩, .slice none 0 0, .slice none 0 0] 126)) := keep_block RB_4.out G5.out (by simp; omega)
  have T8_5 : Hid (w5.heap[w3.heap.size]? = some (.cells #[.int .u8 (R.cur ts st2).k, .string (R.str (R.cur ts st2).s), .int .i64 (R.cur ts st2).at_] 115)) := keep_block T8_4.out G5.out (by simp; omega)
  have UB_5 : Hid (w5.heap[w4.heap.size]? = some (.cells #[.int .i64 num, .string ⟨#[]⟩, .slice none 0 0, .slice none 0 0, .bool false, .string ⟨#[]⟩, .slice none 0 0, .slice none 0 0] 126)) := new_block hg5 (by simp; omega)
  clear hg5 I5
  generalize hst4 : R.notS (R.kindS ts st2 49) (decide (num ≤ 65535)) 4 (R.cur ts st2).at_ = st4 at *
  generalize R.cur ts st2 = t at *
  go_wp2_with fail
  go_loopw [10] (fun iv wr => ∃ k : Nat, k ≤ rs.length ∧ iv = .int .i64 k ∧ Hid (RInv wr rb g cap ts (R.amongN ((rs.map R.Rl.number).take k) num t.at_ st4) H) ∧ Hid (w5.grownBy wr (some rb))) (fun iv _ => rs.length - (intOf iv).toNat)
  case atStart => exact ⟨0, Nat.zero_le _, rfl, J5, grown_refl _ _⟩
  case round =>
    obtain ⟨k, hk, rfl, IR, HR⟩ := hrel
    have bwr : rb < wr.heap.size := block_lt IR.out.rd
    have s5r : w5.heap.size ≤ wr.heap.size := HR.out.size
    by_cases hlt : k < rs.length
    · obtain ⟨gv, gc, hgv, _, _⟩ := World.ownsRow.form HRow.out (by omega)
      simp only [Value.slice.injEq] at hgv
      obtain ⟨rfl, _, rfl⟩ := hgv
      have c1 : wr.cell? ⟨gv, k * 8, none⟩ = some (.int .i64 rs[k].number) := by
        have hc := World.ownsRow.cellAt HRow.out (k * 8) (by omega)
        rw [rules_number HAll.out k hlt] at hc
        exact (grown_trans C5.out HR.out).cell hc (by simpa [Value.ownBlock] using hvr)
      have n8 := keep_block T8_5.out HR.out (by simp; omega)
      have nU := keep_block UB_5.out HR.out (by simp; omega)
      have q80 : wr.cell? ⟨w3.heap.size, 0, none⟩ = some (.int .u8 t.k) := cell_of_block n8
      have q81 : wr.cell? ⟨w3.heap.size, 1, none⟩ = some (.string (R.str t.s)) := cell_of_block n8
      have q82 : wr.cell? ⟨w3.heap.size, 2, none⟩ = some (.int .i64 t.at_) := cell_of_block n8
      have qU0 : wr.cell? ⟨w4.heap.size, 0, none⟩ = some (.int .i64 num) := cell_of_block nU
      clear n8 nU
      have HA : Hid (R.amongN ((rs.map R.Rl.number).take (k + 1)) num t.at_ st4 = R.notS (R.amongN ((rs.map R.Rl.number).take k) num t.at_ st4) (!decide (rs[k].number = num)) 5 t.at_) := by
        show R.amongN _ _ _ _ = _
        unfold R.amongN; rw [List.take_succ_eq_append_getElem (by rw [List.length_map]; exact hlt), List.foldl_append, List.getElem_map]; rfl
      generalize rs[k].number = nk at *
      generalize R.amongN ((rs.map R.Rl.number).take k) num t.at_ st4 = stk at *
      go_wp2
      go_region_with (go_at_call 85; refine (ref_not (IR.out.keep (grown_drew wr)) _ _ _ _ _).mono ?_; rintro e wN ⟨rfl, IN, hgN⟩)
      all_goals
        have JN : Hid (RInv wN rb g cap ts (R.amongN ((rs.map R.Rl.number).take (k + 1)) num t.at_ st4) H) := by rw [HA.out]; exact IN
        have GN : Hid (w5.grownBy wN (some rb)) := grown_trans HR.out (grown_trans (grown_wide (grown_drew wr) _) hgN)
        clear IN hgN
        go_wp2
        exact ⟨⟨k + 1, by omega, by go_num, JN, GN⟩, by simp [intOf]; omega⟩
    · rw [List.take_of_length_le (by rw [List.length_map]; omega)] at IR
      have hke : k = rs.length := by omega
      have RB_x : Hid _ := keep_block RB_5.out HR.out (by simp; omega)
      have UB_x : Hid _ := keep_block UB_5.out HR.out (by simp; omega)
      have CX : Hid (w.grownBy wr (some rb)) := grown_trans C5.out HR.out
      have zwr : w.heap.size ≤ wr.heap.size := CX.out.size
      have HAe2 : Hid (R.rlA ts st i (rs.map R.Rl.number) = (num, R.amongN (rs.map R.Rl.number) num t.at_ st4)) := HAe.out.trans HAf.out
      have HP2 : Hid (r = R.ruleT ts (num, R.amongN (rs.map R.Rl.number) num t.at_ st4)) := by rw [← HAe2.out]; exact HP.out
      clear HP HAe HAf HAe2 J5 JW J1 J2 J3 J4
      generalize R.amongN (rs.map R.Rl.number) num t.at_ st4 = sA at *
      go_wp2_with fail
      refine (ref_needS IR.out _).mono ?_
      rintro e wX1 ⟨rfl, IX1, hgX1⟩
      have JX1 : Hid _ := IX1
      have bX1 : rb < wX1.heap.size := block_lt JX1.out.rd
      have sX1 : wr.heap.size + 0 ≤ wX1.heap.size := by have h := hgX1.size; simpa using h
      have GX1 : Hid (wr.grownBy wX1 (some rb)) := hgX1
      have CX1 : Hid (w.grownBy wX1 (some rb)) := grown_trans CX.out GX1.out
      have zX1 : w.heap.size ≤ wX1.heap.size := CX1.out.size
      have RB_X1 : Hid (wX1.heap[w.heap.size]? = some (.cells #[.int .i64 0, .string ⟨#[]⟩, .slice none 0 0, .slice none 0 0, .bool false, .string ⟨#[]⟩, .slice none 0 0, .slice none 0 0] 126)) := keep_block RB_x.out GX1.out (by simp; omega)
      have UB_X1 : Hid (wX1.heap[w4.heap.size]? = some (.cells #[.int .i64 num, .string ⟨#[]⟩, .slice none 0 0, .slice none 0 0, .bool false, .string ⟨#[]⟩, .slice none 0 0, .slice none 0 0] 126)) := keep_block UB_x.out GX1.out (by simp; omega)
      clear hgX1 IX1
      go_wp2_with fail
      refine (ref_needS JX1.out _).mono ?_
      rintro e wX2 ⟨rfl, IX2, hgX2⟩
      have JX2 : Hid _ := IX2
      have bX2 : rb < wX2.heap.size := block_lt JX2.out.rd
      have sX2 : wX1.heap.size + 0 ≤ wX2.heap.size := by have h := hgX2.size; simpa using h
      have GX2 : Hid (wX1.grownBy wX2 (some rb)) := hgX2
      have CX2 : Hid (w.grownBy wX2 (some rb)) := grown_trans CX1.out GX2.out
      have zX2 : w.heap.size ≤ wX2.heap.size := CX2.out.size
      have RB_X2 : Hid (wX2.heap[w.heap.size]? = some (.cells #[.int .i64 0, .string ⟨#[]⟩, .slice none 0 0, .slice none 0 0, .bool false, .string ⟨#[]⟩, .slice none 0 0, .slice none 0 0] 126)) := keep_block RB_X1.out GX2.out (by simp; omega)
      have UB_X2 : Hid (wX2.heap[w4.heap.size]? = some (.cells #[.int .i64 num, .string ⟨#[]⟩, .slice none 0 0, .slice none 0 0, .bool false, .string ⟨#[]⟩, .slice none 0 0, .slice none 0 0] 126)) := keep_block UB_X1.out GX2.out (by simp; omega)
      clear hgX2 IX2
      go_wp2_with fail
      refine (ref_path JX2.out).mono ?_
      rintro e wX3 ⟨rfl, IX3, hgX3⟩
      have JX3 : Hid _ := IX3
      have bX3 : rb < wX3.heap.size := block_lt JX3.out.rd
      have sX3 : wX2.heap.size + 0 ≤ wX3.heap.size := by have h := hgX3.size; simpa using h
      have GX3 : Hid (wX2.grownBy wX3 (some rb)) := hgX3
      have CX3 : Hid (w.grownBy wX3 (some rb)) := grown_trans CX2.out GX3.out
      have zX3 : w.heap.size ≤ wX3.heap.size := CX3.out.size
      have RB_X3 : Hid (wX3.heap[w.heap.size]? = some (.cells #[.int .i64 0, .string ⟨#[]⟩, .slice none 0 0, .slice none 0 0, .bool false, .string ⟨#[]⟩, .slice none 0 0, .slice none 0 0] 126)) := keep_block RB_X2.out GX3.out (by simp; omega)
      have UB_X3 : Hid (wX3.heap[w4.heap.size]? = some (.cells #[.int .i64 num, .string ⟨#[]⟩, .slice none 0 0, .slice none 0 0, .bool false, .string ⟨#[]⟩, .slice none 0 0, .slice none 0 0] 126)) := keep_block UB_X2.out GX3.out (by simp; omega)
      clear hgX3 IX3
      have HB : Hid (R.rlB ts sA = ((R.pathS ts (R.needS ts (R.needS ts sA [123]) R.wPath)).1, R.needS ts (R.pathS ts (R.needS ts (R.needS ts sA [123]) R.wPath)).2 [59])) := rfl
      have JB : Hid (RInv wX3 rb g cap ts (R.pathS ts (R.needS ts (R.needS ts sA [123]) R.wPath)).2 H) := JX3
      rw [show (R.pathS ts (R.needS ts (R.needS ts sA (⟨#[123]⟩ : ByteArray).data.toList) (⟨#[112, 97, 116, 104]⟩ : ByteArray).data.toList)).1 = (R.pathS ts (R.needS ts (R.needS ts sA [123]) R.wPath)).1 from rfl]
      generalize R.pathS ts (R.needS ts (R.needS ts sA [123]) R.wPath) = pp at *
      obtain ⟨pth, sP⟩ := pp
      simp only at JB HB ⊢
      have qUBl : w4.heap.size < wX3.heap.size := block_lt UB_X3.out
      have qUB1 : wX3.cell? ⟨w4.heap.size, 1, none⟩ = some (.string ⟨#[]⟩) := cell_of_block UB_X3.out
      have qUBf1 : wX3.frozen? ⟨w4.heap.size, 1, none⟩ = false := frozen_of_block UB_X3.out
      go_wp2_with fail
      have JX4 : Hid _ := JB.out.other (grown_setCell wX3 w4.heap.size 1 (.string (R.str pth))) (by omega) (by omega)
      have CX4 : Hid (w.grownBy (World.setCell wX3 ⟨w4.heap.size, 1, none⟩ (.string (R.str pth))) (some rb)) := grown_new CX3.out (grown_setCell wX3 w4.heap.size 1 (.string (R.str pth))) (by omega)
      have RB_X4 : Hid ((World.setCell wX3 ⟨w4.heap.size, 1, none⟩ (.string (R.str pth))).heap[w.heap.size]? = some (.cells #[.int .i64 0, .string ⟨#[]⟩, .slice none 0 0, .slice none 0 0, .bool false, .string ⟨#[]⟩, .slice none 0 0, .slice none 0 0] 126)) := keep_block RB_X3.out (grown_setCell wX3 w4.heap.size 1 (.string (R.str pth))) (by simp; omega)
      have UB_X4 : Hid ((World.setCell wX3 ⟨w4.heap.size, 1, none⟩ (.string (R.str pth))).heap[w4.heap.size]? = some (.cells #[.int .i64 num, .string (R.str pth), .slice none 0 0, .slice none 0 0, .bool false, .string ⟨#[]⟩, .slice none 0 0, .slice none 0 0] 126)) := block_setCell UB_X3.out (.string (R.str pth))
      have sX4 : wX3.heap.size ≤ (World.setCell wX3 ⟨w4.heap.size, 1, none⟩ (.string (R.str pth))).heap.size := by simp [World.setCell]
      have yX4 : (World.setCell wX3 ⟨w4.heap.size, 1, none⟩ (.string (R.str pth))).heap.size ≤ wX3.heap.size := by simp [World.setCell]
      generalize (World.setCell wX3 ⟨w4.heap.size, 1, none⟩ (.string (R.str pth))) = wX4 at *
      have bX4 : rb < wX4.heap.size := by omega
      refine (ref_needS JX4.out _).mono ?_
      rintro e wX5 ⟨rfl, IX5, hgX5⟩
      have JX5 : Hid _ := IX5
      have bX5 : rb < wX5.heap.size := block_lt JX5.out.rd
      have sX5 : wX4.heap.size + 0 ≤ wX5.heap.size := by have h := hgX5.size; simpa using h
      have GX5 : Hid (wX4.grownBy wX5 (some rb)) := hgX5
      have CX5 : Hid (w.grownBy wX5 (some rb)) := grown_trans CX4.out GX5.out
      have zX5 : w.heap.size ≤ wX5.heap.size := CX5.out.size
      have RB_X5 : Hid (wX5.heap[w.heap.size]? = some (.cells #[.int .i64 0, .string ⟨#[]⟩, .slice none 0 0, .slice none 0 0, .bool false, .string ⟨#[]⟩, .slice none 0 0, .slice none 0 0] 126)) := keep_block RB_X4.out GX5.out (by simp; omega)
      have UB_X5 : Hid (wX5.heap[w4.heap.size]? = some (.cells #[.int .i64 num, .string (R.str pth), .slice none 0 0, .slice none 0 0, .bool false, .string ⟨#[]⟩, .slice none 0 0, .slice none 0 0] 126)) := keep_block UB_X4.out GX5.out (by simp; omega)
      clear hgX5 IX5
      have JC : Hid (RInv wX5 rb g cap ts (R.rlB ts sA).2 H) := by rw [HB.out]; exact JX5.out
      have HB1 : Hid ((R.rlB ts sA).1 = pth) := by rw [HB.out]; rfl
      have HP3 : Hid (r = R.ruleE ts num (R.rlB ts sA).1 (R.matchesS ts (R.rlB ts sA).2).1 (R.targetsS ts (R.matchesS ts (R.rlB ts sA).2).2)) := HP2.out
      clear HP2 HB
      generalize R.rlB ts sA = pb at *
      obtain ⟨p0, sB⟩ := pb
      simp only at JC HB1 HP3
      rw [HB1.out] at HP3
      go_wp2_with fail
      refine (ref_matches JC.out).mono ?_
      rintro e wM ⟨vM, rfl, IM, hgM, hrM⟩
      obtain ⟨ma, mc, rfl⟩ := len_row hrM
      have JM : Hid _ := IM
      have bM : rb < wM.heap.size := block_lt JM.out.rd
      have sM : wX5.heap.size ≤ wM.heap.size := hgM.size
      have CM : Hid (w.grownBy wM (some rb)) := grown_trans CX5.out hgM
      have zM : w.heap.size ≤ wM.heap.size := CM.out.size
      have RB_M : Hid (wM.heap[w.heap.size]? = some (.cells #[.int .i64 0, .string ⟨#[]⟩, .slice none 0 0, .slice none 0 0, .bool false, .string ⟨#[]⟩, .slice none 0 0, .slice none 0 0] 126)) := keep_block RB_X5.out hgM (by simp; omega)
      have UB_M : Hid (wM.heap[w4.heap.size]? = some (.cells #[.int .i64 num, .string (R.str pth), .slice none 0 0, .slice none 0 0, .bool false, .string ⟨#[]⟩, .slice none 0 0, .slice none 0 0] 126)) := keep_block UB_X5.out hgM (by simp; omega)
      have HM_M : Hid _ := hrM
      clear IM hgM hrM
      generalize R.matchesS ts sB = pm at *
      obtain ⟨ml, sM⟩ := pm
      simp only at JM HM_M HP3
      have qcl : w4.heap.size < wM.heap.size := block_lt UB_M.out
      have qc2 : wM.cell? ⟨w4.heap.size, 2, none⟩ = some (.slice none 0 0) := cell_of_block UB_M.out
      have qcf2 : wM.frozen? ⟨w4.heap.size, 2, none⟩ = false := frozen_of_block UB_M.out
      go_wp2_with fail
      have JX6 : Hid _ := JM.out.other (grown_setCell wM w4.heap.size 2 (.slice ma ml.length mc)) (by omega) (by omega)
      have CX6 : Hid (w.grownBy (World.setCell wM ⟨w4.heap.size, 2, none⟩ (.slice ma ml.length mc)) (some rb)) := grown_new CM.out (grown_setCell wM w4.heap.size 2 (.slice ma ml.length mc)) (by omega)
      have RB_X6 : Hid ((World.setCell wM ⟨w4.heap.size, 2, none⟩ (.slice ma ml.length mc)).heap[w.heap.size]? = some (.cells #[.int .i64 0, .string ⟨#[]⟩, .slice none 0 0, .slice none 0 0, .bool false, .string ⟨#[]⟩, .slice none 0 0, .slice none 0 0] 126)) := keep_block RB_M.out (grown_setCell wM w4.heap.size 2 (.slice ma ml.length mc)) (by simp; omega)
      have UB_X6 : Hid ((World.setCell wM ⟨w4.heap.size, 2, none⟩ (.slice ma ml.length mc)).heap[w4.heap.size]? = some (.cells #[.int .i64 num, .string (R.str pth), .slice ma ml.length mc, .slice none 0 0, .bool false, .string ⟨#[]⟩, .slice none 0 0, .slice none 0 0] 126)) := block_setCell UB_M.out (.slice ma ml.length mc)
      have HM_X6 : Hid _ := own_kept_box HM_M.out (grown_setCell wM w4.heap.size 2 (.slice ma ml.length mc)) (box_apart UB_M.out HM_M.out (by decide))
      have sX6 : wM.heap.size ≤ (World.setCell wM ⟨w4.heap.size, 2, none⟩ (.slice ma ml.length mc)).heap.size := by simp [World.setCell]
      have yX6 : (World.setCell wM ⟨w4.heap.size, 2, none⟩ (.slice ma ml.length mc)).heap.size ≤ wM.heap.size := by simp [World.setCell]
      generalize (World.setCell wM ⟨w4.heap.size, 2, none⟩ (.slice ma ml.length mc)) = wX6 at *
      have bX6 : rb < wX6.heap.size := by omega
      refine (ref_targets JX6.out).mono ?_
      rintro e wT ⟨vT, rfl, IT, hgT, hrT⟩
      obtain ⟨ta, tc, rfl⟩ := len_row hrT
      have JT : Hid _ := IT
      have bT : rb < wT.heap.size := block_lt JT.out.rd
      have sT : wX6.heap.size ≤ wT.heap.size := hgT.size
      have CT : Hid (w.grownBy wT (some rb)) := grown_trans CX6.out hgT
      have zT : w.heap.size ≤ wT.heap.size := CT.out.size
      have RB_T : Hid (wT.heap[w.heap.size]? = some (.cells #[.int .i64 0, .string ⟨#[]⟩, .slice none 0 0, .slice none 0 0, .bool false, .string ⟨#[]⟩, .slice none 0 0, .slice none 0 0] 126)) := keep_block RB_X6.out hgT (by simp; omega)
      have UB_T : Hid (wT.heap[w4.heap.size]? = some (.cells #[.int .i64 num, .string (R.str pth), .slice ma ml.length mc, .slice none 0 0, .bool false, .string ⟨#[]⟩, .slice none 0 0, .slice none 0 0] 126)) := keep_block UB_X6.out hgT (by simp; omega)
      have HM_T : Hid _ := own_kept HM_X6.out hgT (by omega)
      have HT_T : Hid _ := hrT
      clear IT hgT hrT
      generalize R.targetsS ts sM = pt at *
      obtain ⟨tl, sT⟩ := pt
      simp only at JT HT_T HP3
      have HP4 : Hid (r = (⟨num, pth, ml, tl, R.isB sT (R.cur ts sT) R.wReplace, (R.rlC ts sT).1, (R.editsS ts (R.rlC ts sT).2).1.1, (R.editsS ts (R.rlC ts sT).2).1.2⟩, R.needS ts (R.editsS ts (R.rlC ts sT).2).2 [125])) := HP3.out
      clear HP3
      have qdl : w4.heap.size < wT.heap.size := block_lt UB_T.out
      have qd3 : wT.cell? ⟨w4.heap.size, 3, none⟩ = some (.slice none 0 0) := cell_of_block UB_T.out
      have qdf3 : wT.frozen? ⟨w4.heap.size, 3, none⟩ = false := frozen_of_block UB_T.out
      go_wp2_with fail
      have JX7 : Hid _ := JT.out.other (grown_setCell wT w4.heap.size 3 (.slice ta tl.length tc)) (by omega) (by omega)
      have CX7 : Hid (w.grownBy (World.setCell wT ⟨w4.heap.size, 3, none⟩ (.slice ta tl.length tc)) (some rb)) := grown_new CT.out (grown_setCell wT w4.heap.size 3 (.slice ta tl.length tc)) (by omega)
      have RB_X7 : Hid ((World.setCell wT ⟨w4.heap.size, 3, none⟩ (.slice ta tl.length tc)).heap[w.heap.size]? = some (.cells #[.int .i64 0, .string ⟨#[]⟩, .slice none 0 0, .slice none 0 0, .bool false, .string ⟨#[]⟩, .slice none 0 0, .slice none 0 0] 126)) := keep_block RB_T.out (grown_setCell wT w4.heap.size 3 (.slice ta tl.length tc)) (by simp; omega)
      have UB_X7 : Hid ((World.setCell wT ⟨w4.heap.size, 3, none⟩ (.slice ta tl.length tc)).heap[w4.heap.size]? = some (.cells #[.int .i64 num, .string (R.str pth), .slice ma ml.length mc, .slice ta tl.length tc, .bool false, .string ⟨#[]⟩, .slice none 0 0, .slice none 0 0] 126)) := block_setCell UB_T.out (.slice ta tl.length tc)
      have HM_X7 : Hid _ := own_kept_box HM_T.out (grown_setCell wT w4.heap.size 3 (.slice ta tl.length tc)) (box_apart UB_T.out HM_T.out (by decide))
      have HT_X7 : Hid _ := own_kept_box HT_T.out (grown_setCell wT w4.heap.size 3 (.slice ta tl.length tc)) (box_apart UB_T.out HT_T.out (by decide))
      have sX7 : wT.heap.size ≤ (World.setCell wT ⟨w4.heap.size, 3, none⟩ (.slice ta tl.length tc)).heap.size := by simp [World.setCell]
      have yX7 : (World.setCell wT ⟨w4.heap.size, 3, none⟩ (.slice ta tl.length tc)).heap.size ≤ wT.heap.size := by simp [World.setCell]
      generalize (World.setCell wT ⟨w4.heap.size, 3, none⟩ (.slice ta tl.length tc)) = wX7 at *
      have bX7 : rb < wX7.heap.size := by omega
      refine (ref_isS JX7.out _).mono ?_
      rintro e wX8 ⟨rfl, ggX8⟩
      have hgX8 := grown_wide ggX8 (some rb)
      have JX8 : Hid _ := (JX7.out).keep ggX8
      have bX8 : rb < wX8.heap.size := block_lt JX8.out.rd
      have sX8 : wX7.heap.size + 0 ≤ wX8.heap.size := by have h := hgX8.size; simpa using h
      have GX8 : Hid (wX7.grownBy wX8 (some rb)) := hgX8
      have CX8 : Hid (w.grownBy wX8 (some rb)) := grown_trans CX7.out GX8.out
      have zX8 : w.heap.size ≤ wX8.heap.size := CX8.out.size
      have RB_X8 : Hid (wX8.heap[w.heap.size]? = some (.cells #[.int .i64 0, .string ⟨#[]⟩, .slice none 0 0, .slice none 0 0, .bool false, .string ⟨#[]⟩, .slice none 0 0, .slice none 0 0] 126)) := keep_block RB_X7.out GX8.out (by simp; omega)
      have UB_X8 : Hid (wX8.heap[w4.heap.size]? = some (.cells #[.int .i64 num, .string (R.str pth), .slice ma ml.length mc, .slice ta tl.length tc, .bool false, .string ⟨#[]⟩, .slice none 0 0, .slice none 0 0] 126)) := keep_block UB_X7.out GX8.out (by simp; omega)
      have HM_X8 : Hid _ := own_kept HM_X7.out GX8.out (by omega)
      have HT_X8 : Hid _ := own_kept HT_X7.out GX8.out (by omega)
      clear hgX8 ggX8
      rw [show (⟨#[114, 101, 112, 108, 97, 99, 101]⟩ : ByteArray).data.toList = R.wReplace from rfl]
      have HC : Hid (R.rlC ts sT = if R.isB sT (R.cur ts sT) R.wReplace then ((R.pathS ts (R.needS ts sT R.wReplace)).1, R.needS ts (R.pathS ts (R.needS ts sT R.wReplace)).2 [59]) else ([], sT)) := rfl
      generalize R.rlC ts sT = pc at *
      obtain ⟨tol, sC⟩ := pc
      simp only at HP4
      have qel : w4.heap.size < wX8.heap.size := block_lt UB_X8.out
      have qe4 : wX8.cell? ⟨w4.heap.size, 4, none⟩ = some (.bool false) := cell_of_block UB_X8.out
      have qef4 : wX8.frozen? ⟨w4.heap.size, 4, none⟩ = false := frozen_of_block UB_X8.out
      cases hch : R.isB sT (R.cur ts sT) R.wReplace
      · rw [if_neg (by rw [hch]; simp)] at HC
        have HC1 : Hid (tol = []) := (Prod.mk.inj HC.out).1
        have HC2 : Hid (sC = sT) := (Prod.mk.inj HC.out).2
        rw [hch, HC1.out] at HP4
        rw [HC2.out] at HP4
        go_wp2_with fail
        have JXn1 : Hid _ := JX8.out.other (grown_setCell wX8 w4.heap.size 4 (.bool false)) (by omega) (by omega)
        have CXn1 : Hid (w.grownBy (World.setCell wX8 ⟨w4.heap.size, 4, none⟩ (.bool false)) (some rb)) := grown_new CX8.out (grown_setCell wX8 w4.heap.size 4 (.bool false)) (by omega)
        have RB_Xn1 : Hid ((World.setCell wX8 ⟨w4.heap.size, 4, none⟩ (.bool false)).heap[w.heap.size]? = some (.cells #[.int .i64 0, .string ⟨#[]⟩, .slice none 0 0, .slice none 0 0, .bool false, .string ⟨#[]⟩, .slice none 0 0, .slice none 0 0] 126)) := keep_block RB_X8.out (grown_setCell wX8 w4.heap.size 4 (.bool false)) (by simp; omega)
        have UB_Xn1 : Hid ((World.setCell wX8 ⟨w4.heap.size, 4, none⟩ (.bool false)).heap[w4.heap.size]? = some (.cells #[.int .i64 num, .string (R.str pth), .slice ma ml.length mc, .slice ta tl.length tc, .bool false, .string ⟨#[]⟩, .slice none 0 0, .slice none 0 0] 126)) := block_setCell UB_X8.out (.bool false)
        have HM_Xn1 : Hid _ := own_kept_box HM_X8.out (grown_setCell wX8 w4.heap.size 4 (.bool false)) (box_apart UB_X8.out HM_X8.out (by decide))
        have HT_Xn1 : Hid _ := own_kept_box HT_X8.out (grown_setCell wX8 w4.heap.size 4 (.bool false)) (box_apart UB_X8.out HT_X8.out (by decide))
        have sXn1 : wX8.heap.size ≤ (World.setCell wX8 ⟨w4.heap.size, 4, none⟩ (.bool false)).heap.size := by simp [World.setCell]
        have yXn1 : (World.setCell wX8 ⟨w4.heap.size, 4, none⟩ (.bool false)).heap.size ≤ wX8.heap.size := by simp [World.setCell]
        generalize (World.setCell wX8 ⟨w4.heap.size, 4, none⟩ (.bool false)) = wXn1 at *
        have bXn1 : rb < wXn1.heap.size := by omega
        have JCn : Hid (RInv wXn1 rb g cap ts sC H) := by rw [HC2.out]; exact JXn1.out
        rw [← HC2.out] at HP4
        refine (ref_edits JCn.out w4.heap.size _ _ _ _ _ _ UB_Xn1.out (by omega) (by omega)).mono ?_
        rintro e wE ⟨rfl, IE, KE, vS, vD, hUE, hSE, hDE⟩
        obtain ⟨sa, sc, rfl⟩ := len_row hSE
        obtain ⟨da, dc, rfl⟩ := len_row hDE
        have JE : Hid _ := IE
        have bE : rb < wE.heap.size := block_lt JE.out.rd
        have sE : wXn1.heap.size ≤ wE.heap.size := KE.size
        have CE : Hid (w.grownBy wE (some rb)) := grown_kept2 CXn1.out KE (by omega)
        have zE : w.heap.size ≤ wE.heap.size := CE.out.size
        have RB_E : Hid _ := KE.keep RB_Xn1.out (by omega) (by omega)
        have HM_E : Hid _ := own_kept2 HM_Xn1.out KE (fun k hk => ⟨by have := (World.ownsRow.lt HM_Xn1.out k hk).1; omega, box_apart UB_Xn1.out HM_Xn1.out (by decide) k hk⟩)
        have HT_E : Hid _ := own_kept2 HT_Xn1.out KE (fun k hk => ⟨by have := (World.ownsRow.lt HT_Xn1.out k hk).1; omega, box_apart UB_Xn1.out HT_Xn1.out (by decide) k hk⟩)
        have UB_E : Hid _ := hUE
        have HS_E : Hid _ := hSE
        have HD_E : Hid _ := hDE
        clear IE KE hUE hSE hDE
        generalize R.editsS ts sC = pe at *
        obtain ⟨⟨sl, dl⟩, sE2⟩ := pe
        simp only at JE HS_E HD_E UB_E HP4
        go_wp2_with fail
        refine (ref_needS JE.out _).mono ?_
        rintro e wXn2 ⟨rfl, IXn2, hgXn2⟩
        have JXn2 : Hid _ := IXn2
        have bXn2 : rb < wXn2.heap.size := block_lt JXn2.out.rd
        have sXn2 : wE.heap.size + 0 ≤ wXn2.heap.size := by have h := hgXn2.size; simpa using h
        have GXn2 : Hid (wE.grownBy wXn2 (some rb)) := hgXn2
        have CXn2 : Hid (w.grownBy wXn2 (some rb)) := grown_trans CE.out GXn2.out
        have zXn2 : w.heap.size ≤ wXn2.heap.size := CXn2.out.size
        have RB_Xn2 : Hid (wXn2.heap[w.heap.size]? = some (.cells #[.int .i64 0, .string ⟨#[]⟩, .slice none 0 0, .slice none 0 0, .bool false, .string ⟨#[]⟩, .slice none 0 0, .slice none 0 0] 126)) := keep_block RB_E.out GXn2.out (by simp; omega)
        have UB_Xn2 : Hid (wXn2.heap[w4.heap.size]? = some (.cells #[.int .i64 num, .string (R.str pth), .slice ma ml.length mc, .slice ta tl.length tc, .bool false, .string ⟨#[]⟩, .slice sa sl.length sc, .slice da dl.length dc] 126)) := keep_block UB_E.out GXn2.out (by simp; omega)
        have HM_Xn2 : Hid _ := own_kept HM_E.out GXn2.out (by omega)
        have HT_Xn2 : Hid _ := own_kept HT_E.out GXn2.out (by omega)
        have HS_Xn2 : Hid _ := own_kept HS_E.out GXn2.out (by omega)
        have HD_Xn2 : Hid _ := own_kept HD_E.out GXn2.out (by omega)
        clear hgXn2 IXn2
        have qxl : w4.heap.size < wXn2.heap.size := block_lt UB_Xn2.out
        have qx0 : wXn2.cell? ⟨w4.heap.size, 0, none⟩ = some (.int .i64 num) := cell_of_block UB_Xn2.out
        have qx1 : wXn2.cell? ⟨w4.heap.size, 1, none⟩ = some (.string (R.str pth)) := cell_of_block UB_Xn2.out
        have qx2 : wXn2.cell? ⟨w4.heap.size, 2, none⟩ = some (.slice ma ml.length mc) := cell_of_block UB_Xn2.out
        have qx3 : wXn2.cell? ⟨w4.heap.size, 3, none⟩ = some (.slice ta tl.length tc) := cell_of_block UB_Xn2.out
        have qx4 : wXn2.cell? ⟨w4.heap.size, 4, none⟩ = some (.bool false) := cell_of_block UB_Xn2.out
        have qx5 : wXn2.cell? ⟨w4.heap.size, 5, none⟩ = some (.string ⟨#[]⟩) := cell_of_block UB_Xn2.out
        have qx6 : wXn2.cell? ⟨w4.heap.size, 6, none⟩ = some (.slice sa sl.length sc) := cell_of_block UB_Xn2.out
        have qx7 : wXn2.cell? ⟨w4.heap.size, 7, none⟩ = some (.slice da dl.length dc) := cell_of_block UB_Xn2.out
        have qyl : w.heap.size < wXn2.heap.size := block_lt RB_Xn2.out
        have qy0 : wXn2.cell? ⟨w.heap.size, 0, none⟩ = some (.int .i64 0) := cell_of_block RB_Xn2.out
        have qyf0 : wXn2.frozen? ⟨w.heap.size, 0, none⟩ = false := frozen_of_block RB_Xn2.out
        have qy1 : wXn2.cell? ⟨w.heap.size, 1, none⟩ = some (.string ⟨#[]⟩) := cell_of_block RB_Xn2.out
        have qyf1 : wXn2.frozen? ⟨w.heap.size, 1, none⟩ = false := frozen_of_block RB_Xn2.out
        have qy2 : wXn2.cell? ⟨w.heap.size, 2, none⟩ = some (.slice none 0 0) := cell_of_block RB_Xn2.out
        have qyf2 : wXn2.frozen? ⟨w.heap.size, 2, none⟩ = false := frozen_of_block RB_Xn2.out
        have qy3 : wXn2.cell? ⟨w.heap.size, 3, none⟩ = some (.slice none 0 0) := cell_of_block RB_Xn2.out
        have qyf3 : wXn2.frozen? ⟨w.heap.size, 3, none⟩ = false := frozen_of_block RB_Xn2.out
        have qy4 : wXn2.cell? ⟨w.heap.size, 4, none⟩ = some (.bool false) := cell_of_block RB_Xn2.out
        have qyf4 : wXn2.frozen? ⟨w.heap.size, 4, none⟩ = false := frozen_of_block RB_Xn2.out
        have qy5 : wXn2.cell? ⟨w.heap.size, 5, none⟩ = some (.string ⟨#[]⟩) := cell_of_block RB_Xn2.out
        have qyf5 : wXn2.frozen? ⟨w.heap.size, 5, none⟩ = false := frozen_of_block RB_Xn2.out
        have qy6 : wXn2.cell? ⟨w.heap.size, 6, none⟩ = some (.slice none 0 0) := cell_of_block RB_Xn2.out
        have qyf6 : wXn2.frozen? ⟨w.heap.size, 6, none⟩ = false := frozen_of_block RB_Xn2.out
        have qy7 : wXn2.cell? ⟨w.heap.size, 7, none⟩ = some (.slice none 0 0) := cell_of_block RB_Xn2.out
        have qyf7 : wXn2.frozen? ⟨w.heap.size, 7, none⟩ = false := frozen_of_block RB_Xn2.out
        go_wp2
        have hs8 := grown_trans (grown_trans (grown_trans (grown_trans (grown_trans (grown_trans (grown_trans (grown_setCell wXn2 w.heap.size 0 (.int .i64 num)) (grown_setCell _ w.heap.size 1 (.string (R.str pth)))) (grown_setCell _ w.heap.size 2 (.slice ma ml.length mc))) (grown_setCell _ w.heap.size 3 (.slice ta tl.length tc))) (grown_setCell _ w.heap.size 4 (.bool false))) (grown_setCell _ w.heap.size 5 (.string ⟨#[]⟩))) (grown_setCell _ w.heap.size 6 (.slice sa sl.length sc))) (grown_setCell _ w.heap.size 7 (.slice da dl.length dc))
        refine bodyPost_ret (v := .agg #[.int .i64 num, .string (R.str pth), .slice ma ml.length mc, .slice ta tl.length tc, .bool false, .string ⟨#[]⟩, .slice sa sl.length sc, .slice da dl.length dc]) (by simp [results, Tryz.results90, go_sem, qy0, qy1, qy2, qy3, qy4, qy5, qy6, qy7]) rfl ⟨[.int .i64 num, .string (R.str pth), .slice ma ml.length mc, .slice ta tl.length tc, .bool false, .string ⟨#[]⟩, .slice sa sl.length sc, .slice da dl.length dc], rfl, ?_, grown_new CXn2.out hs8 (Nat.le_refl _), ?_⟩
        · rw [HP4.out]; exact JXn2.out.other hs8 (by omega) (by omega)
        · rw [HP4.out]
          refine ⟨_, _, _, _, rfl, ?_, ?_, ?_, ?_⟩
          · exact own_kept_box (row_base HM_Xn2.out (Nat.zero_le _)) hs8 (fun k hk => box_apart RB_Xn2.out HM_Xn2.out (by decide) k hk)
          · exact own_kept_box (row_base HT_Xn2.out (Nat.zero_le _)) hs8 (fun k hk => box_apart RB_Xn2.out HT_Xn2.out (by decide) k hk)
          · exact own_kept_box (row_base HS_Xn2.out (Nat.zero_le _)) hs8 (fun k hk => box_apart RB_Xn2.out HS_Xn2.out (by decide) k hk)
          · exact own_kept_box (row_base HD_Xn2.out (Nat.zero_le _)) hs8 (fun k hk => box_apart RB_Xn2.out HD_Xn2.out (by decide) k hk)
      · rw [if_pos (by rw [hch])] at HC
        rw [hch] at HP4
        go_wp2_with fail
        have JXy1 : Hid _ := JX8.out.other (grown_setCell wX8 w4.heap.size 4 (.bool true)) (by omega) (by omega)
        have CXy1 : Hid (w.grownBy (World.setCell wX8 ⟨w4.heap.size, 4, none⟩ (.bool true)) (some rb)) := grown_new CX8.out (grown_setCell wX8 w4.heap.size 4 (.bool true)) (by omega)
        have RB_Xy1 : Hid ((World.setCell wX8 ⟨w4.heap.size, 4, none⟩ (.bool true)).heap[w.heap.size]? = some (.cells #[.int .i64 0, .string ⟨#[]⟩, .slice none 0 0, .slice none 0 0, .bool false, .string ⟨#[]⟩, .slice none 0 0, .slice none 0 0] 126)) := keep_block RB_X8.out (grown_setCell wX8 w4.heap.size 4 (.bool true)) (by simp; omega)
        have UB_Xy1 : Hid ((World.setCell wX8 ⟨w4.heap.size, 4, none⟩ (.bool true)).heap[w4.heap.size]? = some (.cells #[.int .i64 num, .string (R.str pth), .slice ma ml.length mc, .slice ta tl.length tc, .bool true, .string ⟨#[]⟩, .slice none 0 0, .slice none 0 0] 126)) := block_setCell UB_X8.out (.bool true)
        have HM_Xy1 : Hid _ := own_kept_box HM_X8.out (grown_setCell wX8 w4.heap.size 4 (.bool true)) (box_apart UB_X8.out HM_X8.out (by decide))
        have HT_Xy1 : Hid _ := own_kept_box HT_X8.out (grown_setCell wX8 w4.heap.size 4 (.bool true)) (box_apart UB_X8.out HT_X8.out (by decide))
        have sXy1 : wX8.heap.size ≤ (World.setCell wX8 ⟨w4.heap.size, 4, none⟩ (.bool true)).heap.size := by simp [World.setCell]
        have yXy1 : (World.setCell wX8 ⟨w4.heap.size, 4, none⟩ (.bool true)).heap.size ≤ wX8.heap.size := by simp [World.setCell]
        generalize (World.setCell wX8 ⟨w4.heap.size, 4, none⟩ (.bool true)) = wXy1 at *
        have bXy1 : rb < wXy1.heap.size := by omega
        refine (ref_needS JXy1.out _).mono ?_
        rintro e wXy2 ⟨rfl, IXy2, hgXy2⟩
        have JXy2 : Hid _ := IXy2
        have bXy2 : rb < wXy2.heap.size := block_lt JXy2.out.rd
        have sXy2 : wXy1.heap.size + 0 ≤ wXy2.heap.size := by have h := hgXy2.size; simpa using h
        have GXy2 : Hid (wXy1.grownBy wXy2 (some rb)) := hgXy2
        have CXy2 : Hid (w.grownBy wXy2 (some rb)) := grown_trans CXy1.out GXy2.out
        have zXy2 : w.heap.size ≤ wXy2.heap.size := CXy2.out.size
        have RB_Xy2 : Hid (wXy2.heap[w.heap.size]? = some (.cells #[.int .i64 0, .string ⟨#[]⟩, .slice none 0 0, .slice none 0 0, .bool false, .string ⟨#[]⟩, .slice none 0 0, .slice none 0 0] 126)) := keep_block RB_Xy1.out GXy2.out (by simp; omega)
        have UB_Xy2 : Hid (wXy2.heap[w4.heap.size]? = some (.cells #[.int .i64 num, .string (R.str pth), .slice ma ml.length mc, .slice ta tl.length tc, .bool true, .string ⟨#[]⟩, .slice none 0 0, .slice none 0 0] 126)) := keep_block UB_Xy1.out GXy2.out (by simp; omega)
        have HM_Xy2 : Hid _ := own_kept HM_Xy1.out GXy2.out (by omega)
        have HT_Xy2 : Hid _ := own_kept HT_Xy1.out GXy2.out (by omega)
        clear hgXy2 IXy2
        go_wp2_with fail
        refine (ref_path JXy2.out).mono ?_
        rintro e wXy3 ⟨rfl, IXy3, hgXy3⟩
        have JXy3 : Hid _ := IXy3
        have bXy3 : rb < wXy3.heap.size := block_lt JXy3.out.rd
        have sXy3 : wXy2.heap.size + 0 ≤ wXy3.heap.size := by have h := hgXy3.size; simpa using h
        have GXy3 : Hid (wXy2.grownBy wXy3 (some rb)) := hgXy3
        have CXy3 : Hid (w.grownBy wXy3 (some rb)) := grown_trans CXy2.out GXy3.out
        have zXy3 : w.heap.size ≤ wXy3.heap.size := CXy3.out.size
        have RB_Xy3 : Hid (wXy3.heap[w.heap.size]? = some (.cells #[.int .i64 0, .string ⟨#[]⟩, .slice none 0 0, .slice none 0 0, .bool false, .string ⟨#[]⟩, .slice none 0 0, .slice none 0 0] 126)) := keep_block RB_Xy2.out GXy3.out (by simp; omega)
        have UB_Xy3 : Hid (wXy3.heap[w4.heap.size]? = some (.cells #[.int .i64 num, .string (R.str pth), .slice ma ml.length mc, .slice ta tl.length tc, .bool true, .string ⟨#[]⟩, .slice none 0 0, .slice none 0 0] 126)) := keep_block UB_Xy2.out GXy3.out (by simp; omega)
        have HM_Xy3 : Hid _ := own_kept HM_Xy2.out GXy3.out (by omega)
        have HT_Xy3 : Hid _ := own_kept HT_Xy2.out GXy3.out (by omega)
        clear hgXy3 IXy3
        have JD : Hid (RInv wXy3 rb g cap ts (R.pathS ts (R.needS ts sT R.wReplace)).2 H) := JXy3
        rw [show (R.pathS ts (R.needS ts sT (⟨#[114, 101, 112, 108, 97, 99, 101]⟩ : ByteArray).data.toList)).1 = (R.pathS ts (R.needS ts sT R.wReplace)).1 from rfl]
        generalize R.pathS ts (R.needS ts sT R.wReplace) = pq at *
        obtain ⟨tq, sQ⟩ := pq
        simp only at JD HC ⊢
        have HC1 : Hid (tol = tq) := (Prod.mk.inj HC.out).1
        have HC2 : Hid (sC = R.needS ts sQ [59]) := (Prod.mk.inj HC.out).2
        rw [HC1.out] at HP4
        have qfl : w4.heap.size < wXy3.heap.size := block_lt UB_Xy3.out
        have qf5 : wXy3.cell? ⟨w4.heap.size, 5, none⟩ = some (.string ⟨#[]⟩) := cell_of_block UB_Xy3.out
        have qff5 : wXy3.frozen? ⟨w4.heap.size, 5, none⟩ = false := frozen_of_block UB_Xy3.out
        go_wp2_with fail
        have JXy4 : Hid _ := JD.out.other (grown_setCell wXy3 w4.heap.size 5 (.string (R.str tq))) (by omega) (by omega)
        have CXy4 : Hid (w.grownBy (World.setCell wXy3 ⟨w4.heap.size, 5, none⟩ (.string (R.str tq))) (some rb)) := grown_new CXy3.out (grown_setCell wXy3 w4.heap.size 5 (.string (R.str tq))) (by omega)
        have RB_Xy4 : Hid ((World.setCell wXy3 ⟨w4.heap.size, 5, none⟩ (.string (R.str tq))).heap[w.heap.size]? = some (.cells #[.int .i64 0, .string ⟨#[]⟩, .slice none 0 0, .slice none 0 0, .bool false, .string ⟨#[]⟩, .slice none 0 0, .slice none 0 0] 126)) := keep_block RB_Xy3.out (grown_setCell wXy3 w4.heap.size 5 (.string (R.str tq))) (by simp; omega)
        have UB_Xy4 : Hid ((World.setCell wXy3 ⟨w4.heap.size, 5, none⟩ (.string (R.str tq))).heap[w4.heap.size]? = some (.cells #[.int .i64 num, .string (R.str pth), .slice ma ml.length mc, .slice ta tl.length tc, .bool true, .string (R.str tq), .slice none 0 0, .slice none 0 0] 126)) := block_setCell UB_Xy3.out (.string (R.str tq))
        have HM_Xy4 : Hid _ := own_kept_box HM_Xy3.out (grown_setCell wXy3 w4.heap.size 5 (.string (R.str tq))) (box_apart UB_Xy3.out HM_Xy3.out (by decide))
        have HT_Xy4 : Hid _ := own_kept_box HT_Xy3.out (grown_setCell wXy3 w4.heap.size 5 (.string (R.str tq))) (box_apart UB_Xy3.out HT_Xy3.out (by decide))
        have sXy4 : wXy3.heap.size ≤ (World.setCell wXy3 ⟨w4.heap.size, 5, none⟩ (.string (R.str tq))).heap.size := by simp [World.setCell]
        have yXy4 : (World.setCell wXy3 ⟨w4.heap.size, 5, none⟩ (.string (R.str tq))).heap.size ≤ wXy3.heap.size := by simp [World.setCell]
        generalize (World.setCell wXy3 ⟨w4.heap.size, 5, none⟩ (.string (R.str tq))) = wXy4 at *
        have bXy4 : rb < wXy4.heap.size := by omega
        refine (ref_needS JXy4.out _).mono ?_
        rintro e wXy5 ⟨rfl, IXy5, hgXy5⟩
        have JXy5 : Hid _ := IXy5
        have bXy5 : rb < wXy5.heap.size := block_lt JXy5.out.rd
        have sXy5 : wXy4.heap.size + 0 ≤ wXy5.heap.size := by have h := hgXy5.size; simpa using h
        have GXy5 : Hid (wXy4.grownBy wXy5 (some rb)) := hgXy5
        have CXy5 : Hid (w.grownBy wXy5 (some rb)) := grown_trans CXy4.out GXy5.out
        have zXy5 : w.heap.size ≤ wXy5.heap.size := CXy5.out.size
        have RB_Xy5 : Hid (wXy5.heap[w.heap.size]? = some (.cells #[.int .i64 0, .string ⟨#[]⟩, .slice none 0 0, .slice none 0 0, .bool false, .string ⟨#[]⟩, .slice none 0 0, .slice none 0 0] 126)) := keep_block RB_Xy4.out GXy5.out (by simp; omega)
        have UB_Xy5 : Hid (wXy5.heap[w4.heap.size]? = some (.cells #[.int .i64 num, .string (R.str pth), .slice ma ml.length mc, .slice ta tl.length tc, .bool true, .string (R.str tq), .slice none 0 0, .slice none 0 0] 126)) := keep_block UB_Xy4.out GXy5.out (by simp; omega)
        have HM_Xy5 : Hid _ := own_kept HM_Xy4.out GXy5.out (by omega)
        have HT_Xy5 : Hid _ := own_kept HT_Xy4.out GXy5.out (by omega)
        clear hgXy5 IXy5
        have JCy : Hid (RInv wXy5 rb g cap ts sC H) := by rw [HC2.out]; exact JXy5.out
        go_wp2_with fail
        refine (ref_edits JCy.out w4.heap.size _ _ _ _ _ _ UB_Xy5.out (by omega) (by omega)).mono ?_
        rintro e wE ⟨rfl, IE, KE, vS, vD, hUE, hSE, hDE⟩
        obtain ⟨sa, sc, rfl⟩ := len_row hSE
        obtain ⟨da, dc, rfl⟩ := len_row hDE
        have JE : Hid _ := IE
        have bE : rb < wE.heap.size := block_lt JE.out.rd
        have sE : wXy5.heap.size ≤ wE.heap.size := KE.size
        have CE : Hid (w.grownBy wE (some rb)) := grown_kept2 CXy5.out KE (by omega)
        have zE : w.heap.size ≤ wE.heap.size := CE.out.size
        have RB_E : Hid _ := KE.keep RB_Xy5.out (by omega) (by omega)
        have HM_E : Hid _ := own_kept2 HM_Xy5.out KE (fun k hk => ⟨by have := (World.ownsRow.lt HM_Xy5.out k hk).1; omega, box_apart UB_Xy5.out HM_Xy5.out (by decide) k hk⟩)
        have HT_E : Hid _ := own_kept2 HT_Xy5.out KE (fun k hk => ⟨by have := (World.ownsRow.lt HT_Xy5.out k hk).1; omega, box_apart UB_Xy5.out HT_Xy5.out (by decide) k hk⟩)
        have UB_E : Hid _ := hUE
        have HS_E : Hid _ := hSE
        have HD_E : Hid _ := hDE
        clear IE KE hUE hSE hDE
        generalize R.editsS ts sC = pe at *
        obtain ⟨⟨sl, dl⟩, sE2⟩ := pe
        simp only at JE HS_E HD_E UB_E HP4
        go_wp2_with fail
        refine (ref_needS JE.out _).mono ?_
        rintro e wXy6 ⟨rfl, IXy6, hgXy6⟩
        have JXy6 : Hid _ := IXy6
        have bXy6 : rb < wXy6.heap.size := block_lt JXy6.out.rd
        have sXy6 : wE.heap.size + 0 ≤ wXy6.heap.size := by have h := hgXy6.size; simpa using h
        have GXy6 : Hid (wE.grownBy wXy6 (some rb)) := hgXy6
        have CXy6 : Hid (w.grownBy wXy6 (some rb)) := grown_trans CE.out GXy6.out
        have zXy6 : w.heap.size ≤ wXy6.heap.size := CXy6.out.size
        have RB_Xy6 : Hid (wXy6.heap[w.heap.size]? = some (.cells #[.int .i64 0, .string ⟨#[]⟩, .slice none 0 0, .slice none 0 0, .bool false, .string ⟨#[]⟩, .slice none 0 0, .slice none 0 0] 126)) := keep_block RB_E.out GXy6.out (by simp; omega)
        have UB_Xy6 : Hid (wXy6.heap[w4.heap.size]? = some (.cells #[.int .i64 num, .string (R.str pth), .slice ma ml.length mc, .slice ta tl.length tc, .bool true, .string (R.str tq), .slice sa sl.length sc, .slice da dl.length dc] 126)) := keep_block UB_E.out GXy6.out (by simp; omega)
        have HM_Xy6 : Hid _ := own_kept HM_E.out GXy6.out (by omega)
        have HT_Xy6 : Hid _ := own_kept HT_E.out GXy6.out (by omega)
        have HS_Xy6 : Hid _ := own_kept HS_E.out GXy6.out (by omega)
        have HD_Xy6 : Hid _ := own_kept HD_E.out GXy6.out (by omega)
        clear hgXy6 IXy6
        have qxl : w4.heap.size < wXy6.heap.size := block_lt UB_Xy6.out
        have qx0 : wXy6.cell? ⟨w4.heap.size, 0, none⟩ = some (.int .i64 num) := cell_of_block UB_Xy6.out
        have qx1 : wXy6.cell? ⟨w4.heap.size, 1, none⟩ = some (.string (R.str pth)) := cell_of_block UB_Xy6.out
        have qx2 : wXy6.cell? ⟨w4.heap.size, 2, none⟩ = some (.slice ma ml.length mc) := cell_of_block UB_Xy6.out
        have qx3 : wXy6.cell? ⟨w4.heap.size, 3, none⟩ = some (.slice ta tl.length tc) := cell_of_block UB_Xy6.out
        have qx4 : wXy6.cell? ⟨w4.heap.size, 4, none⟩ = some (.bool true) := cell_of_block UB_Xy6.out
        have qx5 : wXy6.cell? ⟨w4.heap.size, 5, none⟩ = some (.string (R.str tq)) := cell_of_block UB_Xy6.out
        have qx6 : wXy6.cell? ⟨w4.heap.size, 6, none⟩ = some (.slice sa sl.length sc) := cell_of_block UB_Xy6.out
        have qx7 : wXy6.cell? ⟨w4.heap.size, 7, none⟩ = some (.slice da dl.length dc) := cell_of_block UB_Xy6.out
        have qyl : w.heap.size < wXy6.heap.size := block_lt RB_Xy6.out
        have qy0 : wXy6.cell? ⟨w.heap.size, 0, none⟩ = some (.int .i64 0) := cell_of_block RB_Xy6.out
        have qyf0 : wXy6.frozen? ⟨w.heap.size, 0, none⟩ = false := frozen_of_block RB_Xy6.out
        have qy1 : wXy6.cell? ⟨w.heap.size, 1, none⟩ = some (.string ⟨#[]⟩) := cell_of_block RB_Xy6.out
        have qyf1 : wXy6.frozen? ⟨w.heap.size, 1, none⟩ = false := frozen_of_block RB_Xy6.out
        have qy2 : wXy6.cell? ⟨w.heap.size, 2, none⟩ = some (.slice none 0 0) := cell_of_block RB_Xy6.out
        have qyf2 : wXy6.frozen? ⟨w.heap.size, 2, none⟩ = false := frozen_of_block RB_Xy6.out
        have qy3 : wXy6.cell? ⟨w.heap.size, 3, none⟩ = some (.slice none 0 0) := cell_of_block RB_Xy6.out
        have qyf3 : wXy6.frozen? ⟨w.heap.size, 3, none⟩ = false := frozen_of_block RB_Xy6.out
        have qy4 : wXy6.cell? ⟨w.heap.size, 4, none⟩ = some (.bool false) := cell_of_block RB_Xy6.out
        have qyf4 : wXy6.frozen? ⟨w.heap.size, 4, none⟩ = false := frozen_of_block RB_Xy6.out
        have qy5 : wXy6.cell? ⟨w.heap.size, 5, none⟩ = some (.string ⟨#[]⟩) := cell_of_block RB_Xy6.out
        have qyf5 : wXy6.frozen? ⟨w.heap.size, 5, none⟩ = false := frozen_of_block RB_Xy6.out
        have qy6 : wXy6.cell? ⟨w.heap.size, 6, none⟩ = some (.slice none 0 0) := cell_of_block RB_Xy6.out
        have qyf6 : wXy6.frozen? ⟨w.heap.size, 6, none⟩ = false := frozen_of_block RB_Xy6.out
        have qy7 : wXy6.cell? ⟨w.heap.size, 7, none⟩ = some (.slice none 0 0) := cell_of_block RB_Xy6.out
        have qyf7 : wXy6.frozen? ⟨w.heap.size, 7, none⟩ = false := frozen_of_block RB_Xy6.out
        go_wp2
        have hs8 := grown_trans (grown_trans (grown_trans (grown_trans (grown_trans (grown_trans (grown_trans (grown_setCell wXy6 w.heap.size 0 (.int .i64 num)) (grown_setCell _ w.heap.size 1 (.string (R.str pth)))) (grown_setCell _ w.heap.size 2 (.slice ma ml.length mc))) (grown_setCell _ w.heap.size 3 (.slice ta tl.length tc))) (grown_setCell _ w.heap.size 4 (.bool true))) (grown_setCell _ w.heap.size 5 (.string (R.str tq)))) (grown_setCell _ w.heap.size 6 (.slice sa sl.length sc))) (grown_setCell _ w.heap.size 7 (.slice da dl.length dc))
        refine bodyPost_ret (v := .agg #[.int .i64 num, .string (R.str pth), .slice ma ml.length mc, .slice ta tl.length tc, .bool true, .string (R.str tq), .slice sa sl.length sc, .slice da dl.length dc]) (by simp [results, Tryz.results90, go_sem, qy0, qy1, qy2, qy3, qy4, qy5, qy6, qy7]) rfl ⟨[.int .i64 num, .string (R.str pth), .slice ma ml.length mc, .slice ta tl.length tc, .bool true, .string (R.str tq), .slice sa sl.length sc, .slice da dl.length dc], rfl, ?_, grown_new CXy6.out hs8 (Nat.le_refl _), ?_⟩
        · rw [HP4.out]; exact JXy6.out.other hs8 (by omega) (by omega)
        · rw [HP4.out]
          refine ⟨_, _, _, _, rfl, ?_, ?_, ?_, ?_⟩
          · exact own_kept_box (row_base HM_Xy6.out (Nat.zero_le _)) hs8 (fun k hk => box_apart RB_Xy6.out HM_Xy6.out (by decide) k hk)
          · exact own_kept_box (row_base HT_Xy6.out (Nat.zero_le _)) hs8 (fun k hk => box_apart RB_Xy6.out HT_Xy6.out (by decide) k hk)
          · exact own_kept_box (row_base HS_Xy6.out (Nat.zero_le _)) hs8 (fun k hk => box_apart RB_Xy6.out HS_Xy6.out (by decide) k hk)
          · exact own_kept_box (row_base HD_Xy6.out (Nat.zero_le _)) hs8 (fun k hk => box_apart RB_Xy6.out HD_Xy6.out (by decide) k hk)

end Go.Proofs.YtfocdefchbnkpaaGreatDoor
