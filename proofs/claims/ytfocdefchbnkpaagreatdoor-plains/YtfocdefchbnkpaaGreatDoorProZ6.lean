/- The writer of a policy: a rule. -/
import Derived.Test.YtfocdefchbnkpaaGreatDoorProZ5
namespace Go.Proofs.YtfocdefchbnkpaaGreatDoor
open Go.RowKit

theorem row_kept {w w' : World} {B B' : Nat} {l : List TypeId} {e : TypeId} {s : Nat} {v : Value} {n : Nat} {xs : List Value} (h : w.ownsRow B e s v n xs) (hk : Kept B' l w w') (ht : e ∉ l) : w'.ownsRow B e s v n xs := by
  refine ⟨h.1, ?_⟩
  rcases h.2 with h | ⟨g, cap, cur, rfl, hB, hb, r⟩
  · exact Or.inl h
  · exact Or.inr ⟨g, cap, cur, rfl, hB, hk.cell hb ht, r⟩
theorem WInv.setOp {w : World} {wb : Nat} {l : List UInt8} {op : Int} (h : WInv w wb l op) (op' : Int) : WInv (w.setCell ⟨wb, 2, none⟩ (.int .i64 op')) wb l op' ∧ Kept wb wtags w (w.setCell ⟨wb, 2, none⟩ (.int .i64 op')) := by
  have hg := grown_setCell w wb 2 (.int .i64 op')
  rcases h with ⟨v, hb, ho⟩ | ⟨v, hb, ho⟩
  · exact ⟨Or.inl ⟨v, block_setCell hb _, own_away ho hg (fun k hk e => by have := (World.ownsRow.lt ho k hk).1; cases e; omega)⟩, kept_some hg hb (by decide) (Nat.le_refl _)⟩
  · exact ⟨Or.inr ⟨v, block_setCell hb _, own_away ho hg (fun k hk e => by have := (World.ownsRow.lt ho k hk).1; cases e; omega)⟩, kept_some hg hb (by decide) (Nat.le_refl _)⟩
theorem WInv.fz {w : World} {wb : Nat} {l : List UInt8} {op : Int} (h : WInv w wb l op) : w.frozen? ⟨wb, 2, none⟩ = false := by
  rcases h with ⟨v, hb, ho⟩ | ⟨v, hb, ho⟩
  · exact frozen_of_block hb
  · exact frozen_of_block hb
theorem line_lit {w0 W : World} {wb : Nat} {l : List UInt8} {op : Nat} (h : WInv W wb l op) (hk : Kept wb wtags w0 W) (ps : List (List UInt8)) (hop : op ≤ 3) (hl : l.length ≤ 100000000000000) (hp : ps.length ≤ 10) (hf : ps.flatten.length ≤ 100000000) :
    Calls Tryz.prog 104 #[.pointer (some ⟨wb, 0, none⟩), .slice (some ⟨W.heap.size, 0, none⟩) ps.length ps.length] (W.alloc (.cells (R.strCells ps).toArray 9)) fun e w' => e = .returned (.tuple #[]) ∧ WInv w' wb (l ++ lnS op ps) op ∧ Kept wb wtags w0 w' :=
  (pro_line (op := op) (h.grown (World.grownBy_alloc _ _ _)) W.heap.size ps.length ps (heap_alloc_new _ _) hop (by omega) (by omega)).mono fun e w' ⟨g1, g2, g3⟩ => ⟨g1, g2, (hk.trans (kept_none (World.grownBy_alloc _ _ none))).trans g3⟩
theorem flat_snocM {α : Type} (f : α → List UInt8) (l : List α) (k : Nat) (hk : k < l.length) (pre : List UInt8) : pre ++ ((l.take (k + 1)).map f).flatten = pre ++ ((l.take k).map f).flatten ++ f l[k] := by
  rw [flat_snoc f l k hk, List.append_assoc]

set_option maxRecDepth 100000 in
set_option maxHeartbeats 8000000 in
theorem pro_wrule {w : World} {wb : Nat} {l : List UInt8} (h : WInv w wb l (1 : Nat)) (cs : List Value) (r : P.Rl) (hr : PRuleVal w cs r) (hs : R.Small (toRl r)) (hl : l.length ≤ 90000000000000) (hT : GT w) (hB : GTB wb) :
    Calls Tryz.prog 106 #[.pointer (some ⟨wb, 0, none⟩), .agg cs.toArray] w fun e w' => e = .returned (.tuple #[]) ∧ WInv w' wb (l ++ R.lines (toRl r)) (1 : Nat) ∧ Kept wb wtags w w' := by
  obtain ⟨vM, vT, vS, vD, rfl, hM, hTg, hS, hD⟩ := hr
  obtain ⟨m1, m2, rfl⟩ := len_row hM
  obtain ⟨t1, t2, rfl⟩ := len_row hTg
  obtain ⟨x1, x2, rfl⟩ := len_row hS
  obtain ⟨d1, d2, rfl⟩ := len_row hD
  have gA : w.grownBy (w.alloc (.cells #[.int .i64 r.number, .string (R.str r.path), .slice m1 r.ms.length m2, .slice t1 r.tg.length t2, .string (R.str r.rep), .slice x1 r.sets.length x2, .slice d1 r.drops.length d2] 213)) none := World.grownBy_alloc _ _ _
  have HBX : Hid ((w.alloc (.cells #[.int .i64 r.number, .string (R.str r.path), .slice m1 r.ms.length m2, .slice t1 r.tg.length t2, .string (R.str r.rep), .slice x1 r.sets.length x2, .slice d1 r.drops.length d2] 213)).heap[w.heap.size]? = some (.cells #[.int .i64 r.number, .string (R.str r.path), .slice m1 r.ms.length m2, .slice t1 r.tg.length t2, .string (R.str r.rep), .slice x1 r.sets.length x2, .slice d1 r.drops.length d2] 213)) := heap_alloc_new _ _
  have J0 : Hid (WInv (w.alloc (.cells #[.int .i64 r.number, .string (R.str r.path), .slice m1 r.ms.length m2, .slice t1 r.tg.length t2, .string (R.str r.rep), .slice x1 r.sets.length x2, .slice d1 r.drops.length d2] 213)) wb l (1 : Nat)) := h.grown gA
  have HT0 : Hid (GT (w.alloc (.cells #[.int .i64 r.number, .string (R.str r.path), .slice m1 r.ms.length m2, .slice t1 r.tg.length t2, .string (R.str r.rep), .slice x1 r.sets.length x2, .slice d1 r.drops.length d2] 213))) := hT.grown gA
  have HBd : Hid (GTB wb) := hB
  have HKw : Hid (Kept wb wtags w (w.alloc (.cells #[.int .i64 r.number, .string (R.str r.path), .slice m1 r.ms.length m2, .slice t1 r.tg.length t2, .string (R.str r.rep), .slice x1 r.sets.length x2, .slice d1 r.drops.length d2] 213))) := kept_none gA
  have HM : Hid ((w.alloc (.cells #[.int .i64 r.number, .string (R.str r.path), .slice m1 r.ms.length m2, .slice t1 r.tg.length t2, .string (R.str r.rep), .slice x1 r.sets.length x2, .slice d1 r.drops.length d2] 213)).ownsRow 0 276 3 (.slice m1 r.ms.length m2) r.ms.length (P.mtCells r.ms)) := own_away hM gA (fun k hk c => by cases c)
  have HTg : Hid ((w.alloc (.cells #[.int .i64 r.number, .string (R.str r.path), .slice m1 r.ms.length m2, .slice t1 r.tg.length t2, .string (R.str r.rep), .slice x1 r.sets.length x2, .slice d1 r.drops.length d2] 213)).ownsRow 0 285 2 (.slice t1 r.tg.length t2) r.tg.length (R.tgCells r.tg)) := own_away hTg gA (fun k hk c => by cases c)
  have HSt : Hid ((w.alloc (.cells #[.int .i64 r.number, .string (R.str r.path), .slice m1 r.ms.length m2, .slice t1 r.tg.length t2, .string (R.str r.rep), .slice x1 r.sets.length x2, .slice d1 r.drops.length d2] 213)).ownsRow 0 280 2 (.slice x1 r.sets.length x2) r.sets.length (R.fdCells r.sets)) := own_away hS gA (fun k hk c => by cases c)
  have HDp : Hid ((w.alloc (.cells #[.int .i64 r.number, .string (R.str r.path), .slice m1 r.ms.length m2, .slice t1 r.tg.length t2, .string (R.str r.rep), .slice x1 r.sets.length x2, .slice d1 r.drops.length d2] 213)).ownsRow 0 9 1 (.slice d1 r.drops.length d2) r.drops.length (R.strCells r.drops)) := own_away hD gA (fun k hk c => by cases c)
  have K0 : Hid (Kept wb wtags (w.alloc (.cells #[.int .i64 r.number, .string (R.str r.path), .slice m1 r.ms.length m2, .slice t1 r.tg.length t2, .string (R.str r.rep), .slice x1 r.sets.length x2, .slice d1 r.drops.length d2] 213)) (w.alloc (.cells #[.int .i64 r.number, .string (R.str r.path), .slice m1 r.ms.length m2, .slice t1 r.tg.length t2, .string (R.str r.rep), .slice x1 r.sets.length x2, .slice d1 r.drops.length d2] 213))) := Kept.refl _ _ _
  have hnum : 0 ≤ r.number ∧ r.number ≤ 99999 := hs.num
  have HNum : Hid (0 ≤ r.number ∧ r.number ≤ 99999) := hnum
  have hpath : r.path.length ≤ 3000 := hs.path
  have hrl : r.rep.length ≤ 3000 := hs.to
  have HmS : Hid (∀ m ∈ r.ms, m.name.length ≤ 3000 ∧ m.val.length ≤ 3000) := fun m hm => hs.ms.2 (mtOf m) (List.mem_map_of_mem hm)
  have hml : r.ms.length ≤ 4000 := by have := hs.ms.1; simpa [toRl, rlOf] using this
  have HtS : Hid (∀ t ∈ r.tg, t.1.length ≤ 3000 ∧ 0 ≤ t.2 ∧ t.2 ≤ 99999) := hs.tg.2
  have htl : r.tg.length ≤ 4000 := hs.tg.1
  have HsS : Hid (∀ t ∈ r.sets, t.1.length ≤ 3000 ∧ t.2.length ≤ 3000) := hs.sets.2
  have hsl : r.sets.length ≤ 4000 := hs.sets.1
  have HdS : Hid (∀ t ∈ r.drops, t.length ≤ 3000) := hs.drops.2
  have hdl : r.drops.length ≤ 4000 := hs.drops.1
  have hde : (R.decI r.number).length ≤ 5 := R.decI_len _ hnum
  have htg := tgs_len r.tg HtS.out
  have HLn : Hid (P.head1 r ++ P.head2 r ++ (r.ms.map fun m => R.lnMt (mtOf m)).flatten ++ P.toS r ++ P.repS r ++ (r.sets.map R.lnSet).flatten ++ (r.drops.map R.lnDrop).flatten ++ lnS 1 [[125]] = R.lines (toRl r)) := lines_ln r
  have HI : Hid (Calls Tryz.prog 159 #[.int .i64 r.number] (w.alloc (.cells #[.int .i64 r.number, .string (R.str r.path), .slice m1 r.ms.length m2, .slice t1 r.tg.length t2, .string (R.str r.rep), .slice x1 r.sets.length x2, .slice d1 r.drops.length d2] 213)) fun e w' => e = .returned (.string (R.str (R.decI r.number))) ∧ (w.alloc (.cells #[.int .i64 r.number, .string (R.str r.path), .slice m1 r.ms.length m2, .slice t1 r.tg.length t2, .string (R.str r.rep), .slice x1 r.sets.length x2, .slice d1 r.drops.length d2] 213)).grownBy w' none) := pro_itoa HT0.out r.number HNum.out
  have HQp : Hid (∀ W, Calls Tryz.prog 105 #[.string (R.str r.path)] W fun e w' => e = .returned (.string (R.str (R.q r.path))) ∧ w' = W) := fun W => pro_quoted r.path W hpath
  have HQr : Hid (∀ W, Calls Tryz.prog 105 #[.string (R.str r.rep)] W fun e w' => e = .returned (.string (R.str (R.q r.rep))) ∧ w' = W) := fun W => pro_quoted r.rep W hrl
  clear h hT hB hM hTg hS hD hs hnum
  generalize R.lines (toRl r) = res at *
  go_enter Tryz.func106, Tryz.ntmps106
  go_wp2_with fail
  refine HI.out.mono ?_
  rintro e wI ⟨rfl, hgI⟩
  have KI : Hid (Kept wb wtags (w.alloc (.cells #[.int .i64 r.number, .string (R.str r.path), .slice m1 r.ms.length m2, .slice t1 r.tg.length t2, .string (R.str r.rep), .slice x1 r.sets.length x2, .slice d1 r.drops.length d2] 213)) wI) := K0.out.trans (kept_none hgI)
  have JI : Hid (WInv wI wb l (1 : Nat)) := J0.out.grown hgI
  have hub : w.heap.size < (w.alloc (.cells #[.int .i64 r.number, .string (R.str r.path), .slice m1 r.ms.length m2, .slice t1 r.tg.length t2, .string (R.str r.rep), .slice x1 r.sets.length x2, .slice d1 r.drops.length d2] 213)).heap.size := block_lt HBX.out
  generalize w.alloc (.cells #[.int .i64 r.number, .string (R.str r.path), .slice m1 r.ms.length m2, .slice t1 r.tg.length t2, .string (R.str r.rep), .slice x1 r.sets.length x2, .slice d1 r.drops.length d2] 213) = wa at *
  clear hgI HI gA J0 K0
  go_wp2_with fail
  have HL1 : Hid (Calls Tryz.prog 104 #[.pointer (some ⟨wb, 0, none⟩), .slice (some ⟨wI.heap.size, 0, none⟩) 3 3] (wI.alloc (.cells #[.string ⟨#[114, 117, 108, 101, 32]⟩, .string (R.str (R.decI r.number)), .string ⟨#[32, 123]⟩] 9)) fun e w' => e = .returned (.tuple #[]) ∧ WInv w' wb (l ++ P.head1 r) (1 : Nat) ∧ Kept wb wtags wa w') := by
    have h := line_lit JI.out KI.out [[114, 117, 108, 101, 32], R.decI r.number, [32, 123]] (by decide) (by omega) (by simp) (by simp only [List.flatten_cons, List.flatten_nil, List.length_append, List.length_cons, List.length_nil]; omega)
    exact h
  refine HL1.out.mono ?_
  rintro e w1 ⟨rfl, hJ1, hK1⟩
  have J1 : Hid (WInv w1 wb (l ++ P.head1 r) (1 : Nat)) := hJ1
  have K1 : Hid (Kept wb wtags wa w1) := hK1
  clear hJ1 hK1 HL1
  have UB1 := K1.out.cell HBX.out (by decide)
  have u1_1 : w1.cell? ⟨w.heap.size, 1, none⟩ = some (.string (R.str r.path)) := cell_of_block UB1
  clear UB1
  have c1 : w1.cell? ⟨wb, 2, none⟩ = some (.int .i64 1) := WInv.op J1.out
  have f1 : w1.frozen? ⟨wb, 2, none⟩ = false := WInv.fz J1.out
  obtain ⟨hJ2, hK2⟩ := WInv.setOp J1.out (2 : Nat)
  have J2 : Hid (WInv (w1.setCell ⟨wb, 2, none⟩ (.int .i64 2)) wb (l ++ P.head1 r) (2 : Nat)) := hJ2
  have K2 : Hid (Kept wb wtags wa (w1.setCell ⟨wb, 2, none⟩ (.int .i64 2))) := K1.out.trans hK2
  have hz1 : (l ++ P.head1 r).length ≤ 90000000001000 := by
    show (l ++ lnS 1 [[114, 117, 108, 101, 32], R.decI r.number, [32, 123]]).length ≤ _
    unfold lnS
    simp only [List.flatten_cons, List.flatten_nil, List.length_append, List.length_cons, List.length_nil, List.length_replicate]; omega
  clear hJ2 hK2 J1 K1 JI KI
  have UB2 := K2.out.cell HBX.out (by decide)
  have u2_1 : (w1.setCell ⟨wb, 2, none⟩ (.int .i64 2)).cell? ⟨w.heap.size, 1, none⟩ = some (.string (R.str r.path)) := cell_of_block UB2
  clear UB2
  go_wp2_with fail
  refine (HQp.out _).mono ?_
  rintro e wq ⟨rfl, hwq⟩
  subst hwq
  generalize w1.setCell ⟨wb, 2, none⟩ (.int .i64 2) = w2 at *
  go_wp2_with fail
  have HL3 : Hid (Calls Tryz.prog 104 #[.pointer (some ⟨wb, 0, none⟩), .slice (some ⟨w2.heap.size, 0, none⟩) 3 3] (w2.alloc (.cells #[.string ⟨#[112, 97, 116, 104, 32]⟩, .string (R.str (R.q r.path)), .string ⟨#[59]⟩] 9)) fun e w' => e = .returned (.tuple #[]) ∧ WInv w' wb (l ++ P.head1 r ++ P.head2 r) (2 : Nat) ∧ Kept wb wtags wa w') := by
    have h := line_lit J2.out K2.out [[112, 97, 116, 104, 32], R.q r.path, [59]] (by decide) (by omega) (by simp) (by simp only [List.flatten_cons, List.flatten_nil, List.length_append, List.length_cons, List.length_nil, R.q_len]; omega)
    exact h
  refine HL3.out.mono ?_
  rintro e w3 ⟨rfl, hJ3, hK3⟩
  have J3 : Hid (WInv w3 wb (l ++ P.head1 r ++ P.head2 r) (2 : Nat)) := hJ3
  have K3 : Hid (Kept wb wtags wa w3) := hK3
  clear hJ3 hK3 HL3
  have hz3 : (l ++ P.head1 r ++ P.head2 r).length ≤ 90000000010000 := by
    rw [List.length_append]
    show _ + (lnS 2 [[112, 97, 116, 104, 32], R.q r.path, [59]]).length ≤ _
    unfold lnS
    simp only [List.flatten_cons, List.flatten_nil, List.length_append, List.length_cons, List.length_nil, List.length_replicate, R.q_len] at hz1 ⊢; omega
  have HPr3 : Hid (l ++ res = (l ++ P.head1 r ++ P.head2 r) ++ ((r.ms.map fun m => R.lnMt (mtOf m)).flatten ++ P.toS r ++ P.repS r ++ (r.sets.map R.lnSet).flatten ++ (r.drops.map R.lnDrop).flatten ++ lnS 1 [[125]])) := by
    show _ = _
    rw [← HLn.out]; simp only [List.append_assoc]
  generalize l ++ P.head1 r ++ P.head2 r = pre at *
  clear J2 K2 hz1 HQp HNum HLn c1 f1
  have UB3 := K3.out.cell HBX.out (by decide)
  have u3_2 : w3.cell? ⟨w.heap.size, 2, none⟩ = some (.slice m1 r.ms.length m2) := cell_of_block UB3
  clear UB3
  go_wp2_with fail
  go_loopw [32] (fun iv wr => ∃ k : Nat, k ≤ r.ms.length ∧ iv = .int .i64 k ∧ Hid (WInv wr wb (pre ++ ((r.ms.take k).map (fun m => R.lnMt (mtOf m))).flatten) (2 : Nat)) ∧ (pre ++ ((r.ms.take k).map (fun m => R.lnMt (mtOf m))).flatten).length ≤ 90000000010000 + 6100 * k ∧ Hid (Kept wb wtags wa wr)) (fun iv _ => r.ms.length - (intOf iv).toNat)
  case atStart => exact ⟨0, Nat.zero_le _, rfl, by rw [List.take_zero, List.map_nil, List.flatten_nil, List.append_nil]; exact J3, by rw [List.take_zero, List.map_nil, List.flatten_nil, List.append_nil]; omega, K3⟩
  case round =>
    obtain ⟨k, hk, rfl, JR, hsz, KR⟩ := hrel
    clear J3 K3
    by_cases hlt : k < r.ms.length
    · have hkI : (k : Int) < r.ms.length := by omega
      obtain ⟨gm, gmc, hgm, _, hgl⟩ := World.ownsRow.form HM.out (by omega)
      simp only [Value.slice.injEq] at hgm
      obtain ⟨rfl, _, rfl⟩ := hgm
      have hrw := row_kept HM.out KR.out (by decide)
      have e0 : wr.cell? ⟨gm, k * 3, none⟩ = some (.string (R.str r.ms[k].name)) := row_get P.Mt.cells 3 (fun _ => rfl) hrw (grown_refl _ _) k 0 hlt (by omega) rfl
      have e1 : wr.cell? ⟨gm, k * 3 + 1, none⟩ = some (.bool r.ms[k].ask) := row_get P.Mt.cells 3 (fun _ => rfl) hrw (grown_refl _ _) k 1 hlt (by omega) rfl
      have e2 : wr.cell? ⟨gm, k * 3 + 2, none⟩ = some (.string (R.str r.ms[k].val)) := row_get P.Mt.cells 3 (fun _ => rfl) hrw (grown_refl _ _) k 2 hlt (by omega) rfl
      clear hrw
      have hmm := HmS.out r.ms[k] (List.getElem_mem hlt)
      have HNx := flat_snocM (fun m => R.lnMt (mtOf m)) r.ms k hlt pre
      have HML : (R.lnMt (mtOf r.ms[k])).length ≤ 6100 := by
        unfold R.lnMt mtOf; split <;> simp only [List.length_append, R.q_len, List.length_cons, List.length_nil] <;> omega
      have HMt : Hid (Calls Tryz.prog 160 #[.pointer (some ⟨wb, 0, none⟩), .agg #[.string (R.str r.ms[k].name), .bool r.ms[k].ask, .string (R.str r.ms[k].val)]] (wr.alloc (.cells #[.string (R.str r.ms[k].name), .bool r.ms[k].ask, .string (R.str r.ms[k].val)] 276)) fun e w' => e = .returned (.tuple #[]) ∧ WInv w' wb (pre ++ ((r.ms.take (k + 1)).map (fun m => R.lnMt (mtOf m))).flatten) (2 : Nat) ∧ Kept wb wtags wa w' ∧ (pre ++ ((r.ms.take (k + 1)).map (fun m => R.lnMt (mtOf m))).flatten).length ≤ 90000000010000 + 6100 * (k + 1)) := by
        refine (pro_wmatch (JR.out.grown (World.grownBy_alloc _ _ none)) r.ms[k] hmm.1 hmm.2 (by omega)).mono ?_
        rintro e w' ⟨rfl, q1, q2⟩
        rw [HNx]
        exact ⟨rfl, q1, (KR.out.trans (kept_none (World.grownBy_alloc _ _ none))).trans q2, by rw [List.length_append]; omega⟩
      clear HNx HML hmm HmS
      generalize r.ms[k] = m at *
      obtain ⟨mn, ma, mv⟩ := m
      simp only at e0 e1 e2 HMt
      go_wp2_with (go_at_call 160; refine HMt.out.mono ?_; rintro e w2 ⟨rfl, h2, h3, h4⟩)
      go_roundw
      case rel => exact ⟨k + 1, by omega, by go_num, h2, h4, h3⟩
      case measure => simp [intOf]; omega
    · have HE : k = r.ms.length := by omega
      subst HE
      rw [List.take_length] at JR hsz
      have HPr4 : Hid (l ++ res = (pre ++ (r.ms.map (fun m => R.lnMt (mtOf m))).flatten) ++ (P.toS r ++ P.repS r ++ (r.sets.map R.lnSet).flatten ++ (r.drops.map R.lnDrop).flatten ++ lnS 1 [[125]])) := by
        show _ = _
        rw [HPr3.out]; simp only [List.append_assoc]
      clear HPr3 HM HmS
      generalize pre ++ (r.ms.map (fun m => R.lnMt (mtOf m))).flatten = pre2 at *
      have hz4 : pre2.length ≤ 90000100000000 := by omega
      clear hsz
      have UB4 := KR.out.cell HBX.out (by decide)
      have u4_3 : wr.cell? ⟨w.heap.size, 3, none⟩ = some (.slice t1 r.tg.length t2) := cell_of_block UB4
      clear UB4
      have HLi : Hid (Calls Tryz.prog 161 #[.slice t1 r.tg.length t2] wr fun e w' => e = .returned (.string (R.str (R.lnTgs r.tg))) ∧ wr.grownBy w' none) := pro_listed r.tg _ (row_kept HTg.out KR.out (by decide)) htl HtS.out (HT0.out.kept KR.out HBd.out)
      go_wp2_with fail
      refine HLi.out.mono ?_
      rintro e wL ⟨rfl, hgL⟩
      have KL : Hid (Kept wb wtags wa wL) := KR.out.trans (kept_none hgL)
      have JL : Hid (WInv wL wb pre2 (2 : Nat)) := WInv.grown JR.out hgL
      clear hgL HLi HTg HtS HT0 JR KR
      go_wp2_with fail
      have HL5 : Hid (Calls Tryz.prog 104 #[.pointer (some ⟨wb, 0, none⟩), .slice (some ⟨wL.heap.size, 0, none⟩) 3 3] (wL.alloc (.cells #[.string ⟨#[116, 111, 32]⟩, .string (R.str (R.lnTgs r.tg)), .string ⟨#[59]⟩] 9)) fun e w' => e = .returned (.tuple #[]) ∧ WInv w' wb (pre2 ++ P.toS r) (2 : Nat) ∧ Kept wb wtags wa w') := by
        have h := line_lit JL.out KL.out [[116, 111, 32], R.lnTgs r.tg, [59]] (by decide) (by omega) (by simp) (by simp only [List.flatten_cons, List.flatten_nil, List.length_append, List.length_cons, List.length_nil]; omega)
        exact h
      refine HL5.out.mono ?_
      rintro e w5 ⟨rfl, hJ5, hK5⟩
      have J5 : Hid (WInv w5 wb (pre2 ++ P.toS r) (2 : Nat)) := hJ5
      have K5 : Hid (Kept wb wtags wa w5) := hK5
      clear hJ5 hK5 HL5
      have hz5 : (pre2 ++ P.toS r).length ≤ 90000200000000 := by
        rw [List.length_append]
        show _ + (lnS 2 [[116, 111, 32], R.lnTgs r.tg, [59]]).length ≤ _
        unfold lnS
        simp only [List.flatten_cons, List.flatten_nil, List.length_append, List.length_cons, List.length_nil, List.length_replicate]; omega
      clear KL JL htg
      by_cases hrep : r.rep = []
      · have hr0 : R.str r.rep = ⟨#[]⟩ := by rw [hrep]; rfl
        have HPr5 : Hid (l ++ res = (pre2 ++ P.toS r) ++ ((r.sets.map R.lnSet).flatten ++ (r.drops.map R.lnDrop).flatten ++ lnS 1 [[125]])) := by
          show _ = _
          rw [HPr4.out]; unfold P.repS; rw [if_pos hrep]; simp only [List.append_assoc, List.nil_append]
        have HDp1 : Hid (wa.ownsRow 0 9 1 (.slice d1 r.drops.length d2) r.drops.length (r.drops.map fun s => [Value.string (R.str s)]).flatten) := strRow1 HDp.out
        clear HPr4 HDp HQr hrep
        generalize pre2 ++ P.toS r = pre at *
        have UB5 := K5.out.cell HBX.out (by decide)
        have u5_4 : w5.cell? ⟨w.heap.size, 4, none⟩ = some (.string (R.str r.rep)) := cell_of_block UB5
        clear UB5
        have UBas := K5.out.cell HBX.out (by decide)
        have uas_5 : w5.cell? ⟨w.heap.size, 5, none⟩ = some (.slice x1 r.sets.length x2) := cell_of_block UBas
        clear UBas
        go_wp2_with fail
        go_loopw [58] (fun iv wr => ∃ k : Nat, k ≤ r.sets.length ∧ iv = .int .i64 k ∧ Hid (WInv wr wb (pre ++ ((r.sets.take k).map R.lnSet).flatten) (2 : Nat)) ∧ (pre ++ ((r.sets.take k).map R.lnSet).flatten).length ≤ 90000300000000 + 6100 * k ∧ Hid (Kept wb wtags wa wr)) (fun iv _ => r.sets.length - (intOf iv).toNat)
        case atStart => exact ⟨0, Nat.zero_le _, rfl, by rw [List.take_zero, List.map_nil, List.flatten_nil, List.append_nil]; exact J5, by rw [List.take_zero, List.map_nil, List.flatten_nil, List.append_nil]; omega, K5⟩
        case round =>
          obtain ⟨k, hk, rfl, JR, hsz, KR⟩ := hrel
          clear J5 K5
          by_cases hlt : k < r.sets.length
          · have hkI : (k : Int) < r.sets.length := by omega
            obtain ⟨gm, gmc, hgm, _, hgl⟩ := World.ownsRow.form HSt.out (by omega)
            simp only [Value.slice.injEq] at hgm
            obtain ⟨rfl, _, rfl⟩ := hgm
            have hrw := row_kept HSt.out KR.out (by decide)
            have e0 : wr.cell? ⟨gm, k * 2, none⟩ = some (.string (R.str r.sets[k].1)) := row_get (fun t : List UInt8 × List UInt8 => [.string (R.str t.1), .string (R.str t.2)]) 2 (fun _ => rfl) hrw (grown_refl _ _) k 0 hlt (by omega) rfl
            have e1 : wr.cell? ⟨gm, k * 2 + 1, none⟩ = some (.string (R.str r.sets[k].2)) := row_get (fun t : List UInt8 × List UInt8 => [.string (R.str t.1), .string (R.str t.2)]) 2 (fun _ => rfl) hrw (grown_refl _ _) k 1 hlt (by omega) rfl
            clear hrw
            have hss := HsS.out r.sets[k] (List.getElem_mem hlt)
            have HNx := flat_snocM R.lnSet r.sets k hlt pre
            generalize hsk : r.sets[k] = st at *
            obtain ⟨sh, sv⟩ := st
            simp only at e0 e1 hss
            have HQ1 : Hid (∀ W, Calls Tryz.prog 105 #[.string (R.str sh)] W fun e w' => e = .returned (.string (R.str (R.q sh))) ∧ w' = W) := fun W => pro_quoted sh W hss.1
            have HQ2 : Hid (∀ W, Calls Tryz.prog 105 #[.string (R.str sv)] W fun e w' => e = .returned (.string (R.str (R.q sv))) ∧ w' = W) := fun W => pro_quoted sv W hss.2
            have HBs : Hid ((wr.alloc (.cells #[.string (R.str sh), .string (R.str sv)] 280)).heap[wr.heap.size]? = some (.cells #[.string (R.str sh), .string (R.str sv)] 280)) := heap_alloc_new _ _
            have b0 : (wr.alloc (.cells #[.string (R.str sh), .string (R.str sv)] 280)).cell? ⟨wr.heap.size, 0, none⟩ = some (.string (R.str sh)) := cell_of_block HBs.out
            have b1 : (wr.alloc (.cells #[.string (R.str sh), .string (R.str sv)] 280)).cell? ⟨wr.heap.size, 1, none⟩ = some (.string (R.str sv)) := cell_of_block HBs.out
            have HL5 : Hid (Calls Tryz.prog 104 #[.pointer (some ⟨wb, 0, none⟩), .slice (some ⟨wr.heap.size + 1, 0, none⟩) 5 5] (((wr.alloc (.cells #[.string (R.str sh), .string (R.str sv)] 280)).drew).alloc (.cells #[.string ⟨#[115, 101, 116, 32]⟩, .string (R.str (R.q sh)), .string ⟨#[32, 61, 32]⟩, .string (R.str (R.q sv)), .string ⟨#[59]⟩] 9)) fun e w' => e = .returned (.tuple #[]) ∧ WInv w' wb (pre ++ ((r.sets.take (k + 1)).map R.lnSet).flatten) (2 : Nat) ∧ Kept wb wtags wa w' ∧ (pre ++ ((r.sets.take (k + 1)).map R.lnSet).flatten).length ≤ 90000300000000 + 6100 * (k + 1) ∧ w'.cell? ⟨wr.heap.size, 0, none⟩ = some (.string (R.str sh)) ∧ w'.cell? ⟨wr.heap.size, 1, none⟩ = some (.string (R.str sv))) := by
              have gD : wr.grownBy (wr.alloc (.cells #[.string (R.str sh), .string (R.str sv)] 280)).drew none := grown_trans (World.grownBy_alloc _ _ none) (grown_drew _)
              have h := line_lit (w0 := (wr.alloc (.cells #[.string (R.str sh), .string (R.str sv)] 280)).drew) (JR.out.grown gD) (Kept.refl _ _ _) [[115, 101, 116, 32], R.q sh, [32, 61, 32], R.q sv, [59]] (by decide) (by omega) (by simp) (by simp only [List.flatten_cons, List.flatten_nil, List.length_append, List.length_cons, List.length_nil, R.q_len]; omega)
              rw [show ((wr.alloc (.cells #[.string (R.str sh), .string (R.str sv)] 280)).drew).heap.size = wr.heap.size + 1 by simp [World.drew]] at h
              have hln : (R.lnSet (sh, sv)).length ≤ 6100 := by
                unfold R.lnSet; simp only [List.length_append, R.q_len, List.length_cons, List.length_nil]; omega
              rw [HNx]
              refine Calls.mono h fun e w' ⟨q1, q2, q3⟩ => ⟨q1, ?_, (KR.out.trans (kept_none gD)).trans q3, by rw [List.length_append]; omega, cell_of_block (q3.cell (c := #[.string (R.str sh), .string (R.str sv)]) HBs.out (by decide)), cell_of_block (q3.cell (c := #[.string (R.str sh), .string (R.str sv)]) HBs.out (by decide))⟩
              rw [set_ln (sh, sv)] at q2; exact q2
            clear HNx hss HsS JR KR HBs
            go_wp2_with fail
            go_region_held3 (fun W => W.cell? ⟨wr.heap.size, 0, none⟩ = some (.string (R.str sh)) ∧ W.cell? ⟨wr.heap.size, 1, none⟩ = some (.string (R.str sv))) (go_keep) (first
              | (go_at_call 105; refine (HQ1.out _).mono ?_; rintro e w' ⟨rfl, rfl⟩)
              | (go_at_call 105; refine (HQ2.out _).mono ?_; rintro e w' ⟨rfl, rfl⟩)
              | (go_at_call 104; refine HL5.out.mono ?_; rintro e w3 ⟨rfl, h2, h3, h4, g4, g5⟩))
            all_goals
              go_wp2
              go_roundw
              case rel => exact ⟨k + 1, by omega, by go_num, h2, h4, h3⟩
              case measure => simp [intOf]; omega
          · have HE : k = r.sets.length := by omega
            subst HE
            rw [List.take_length] at JR hsz
            have HPr6 : Hid (l ++ res = (pre ++ (r.sets.map R.lnSet).flatten) ++ ((r.drops.map R.lnDrop).flatten ++ lnS 1 [[125]])) := by
              show _ = _
              rw [HPr5.out]; simp only [List.append_assoc]
            clear HPr5 HSt HsS
            generalize pre ++ (r.sets.map R.lnSet).flatten = pre at *
            have hz6 : pre.length ≤ 90000400000000 := by omega
            have J6 : Hid (WInv wr wb pre (2 : Nat)) := JR
            have K6 : Hid (Kept wb wtags wa wr) := KR
            clear hsz JR KR hk
            have UBad := K6.out.cell HBX.out (by decide)
            have uad_6 : wr.cell? ⟨w.heap.size, 6, none⟩ = some (.slice d1 r.drops.length d2) := cell_of_block UBad
            clear UBad
            go_wp2_with fail
            go_loopw [75] (fun iv wr => ∃ k : Nat, k ≤ r.drops.length ∧ iv = .int .i64 k ∧ Hid (WInv wr wb (pre ++ ((r.drops.take k).map R.lnDrop).flatten) (2 : Nat)) ∧ (pre ++ ((r.drops.take k).map R.lnDrop).flatten).length ≤ 90000400000000 + 6100 * k ∧ Hid (Kept wb wtags wa wr)) (fun iv _ => r.drops.length - (intOf iv).toNat)
            case atStart => exact ⟨0, Nat.zero_le _, rfl, by rw [List.take_zero, List.map_nil, List.flatten_nil, List.append_nil]; exact J6, by rw [List.take_zero, List.map_nil, List.flatten_nil, List.append_nil]; omega, K6⟩
            case round =>
              obtain ⟨k, hk, rfl, JR, hsz, KR⟩ := hrel
              clear J6 K6
              by_cases hlt : k < r.drops.length
              · have hkI : (k : Int) < r.drops.length := by omega
                obtain ⟨gm, gmc, hgm, _, hgl⟩ := World.ownsRow.form HDp1.out (by omega)
                simp only [Value.slice.injEq] at hgm
                obtain ⟨rfl, _, rfl⟩ := hgm
                have hrw := row_kept HDp1.out KR.out (by decide)
                have e0 : wr.cell? ⟨gm, k * 1, none⟩ = some (.string (R.str r.drops[k])) := row_get (fun s => [Value.string (R.str s)]) 1 (fun _ => rfl) hrw (grown_refl _ _) k 0 hlt (by omega) rfl
                clear hrw
                rw [Nat.mul_one] at e0
                have hds := HdS.out r.drops[k] (List.getElem_mem hlt)
                have HNx := flat_snocM R.lnDrop r.drops k hlt pre
                generalize r.drops[k] = dk at *
                have HQd : Hid (∀ W, Calls Tryz.prog 105 #[.string (R.str dk)] W fun e w' => e = .returned (.string (R.str (R.q dk))) ∧ w' = W) := fun W => pro_quoted dk W hds
                have HLd : Hid (Calls Tryz.prog 104 #[.pointer (some ⟨wb, 0, none⟩), .slice (some ⟨wr.heap.size, 0, none⟩) 3 3] (wr.alloc (.cells #[.string ⟨#[100, 114, 111, 112, 32]⟩, .string (R.str (R.q dk)), .string ⟨#[59]⟩] 9)) fun e w' => e = .returned (.tuple #[]) ∧ WInv w' wb (pre ++ ((r.drops.take (k + 1)).map R.lnDrop).flatten) (2 : Nat) ∧ Kept wb wtags wa w' ∧ (pre ++ ((r.drops.take (k + 1)).map R.lnDrop).flatten).length ≤ 90000400000000 + 6100 * (k + 1)) := by
                  have h := line_lit JR.out KR.out [[100, 114, 111, 112, 32], R.q dk, [59]] (by decide) (by omega) (by simp) (by simp only [List.flatten_cons, List.flatten_nil, List.length_append, List.length_cons, List.length_nil, R.q_len]; omega)
                  have hln : (R.lnDrop dk).length ≤ 6100 := by
                    unfold R.lnDrop; simp only [List.length_append, R.q_len, List.length_cons, List.length_nil]; omega
                  rw [HNx]
                  refine Calls.mono h fun e w' ⟨q1, q2, q3⟩ => ⟨q1, ?_, q3, by rw [List.length_append]; omega⟩
                  rw [drop_ln dk] at q2; exact q2
                clear HNx hds HdS JR KR
                go_wp2_with fail
                refine (HQd.out _).mono ?_
                rintro e wq ⟨rfl, hwq⟩
                rw [hwq]
                clear hwq wq
                go_wp2_with fail
                refine HLd.out.mono ?_
                rintro e w7 ⟨rfl, h2, h3, h4⟩
                go_wp2
                go_roundw
                case rel => exact ⟨k + 1, by omega, by go_num, h2, h4, h3⟩
                case measure => simp [intOf]; omega
              · have HE : k = r.drops.length := by omega
                subst HE
                rw [List.take_length] at JR hsz
                have HPr7 : Hid (l ++ res = (pre ++ (r.drops.map R.lnDrop).flatten) ++ lnS 1 [[125]]) := by
                  show _ = _
                  rw [HPr6.out]; simp only [List.append_assoc]
                clear HPr6 HDp1 HdS
                generalize pre ++ (r.drops.map R.lnDrop).flatten = pre8 at *
                have c8 : wr.cell? ⟨wb, 2, none⟩ = some (.int .i64 2) := WInv.op JR.out
                have f8 : wr.frozen? ⟨wb, 2, none⟩ = false := WInv.fz JR.out
                obtain ⟨hJ8, hK8⟩ := WInv.setOp JR.out (1 : Nat)
                have J8 : Hid (WInv (wr.setCell ⟨wb, 2, none⟩ (.int .i64 1)) wb pre8 (1 : Nat)) := hJ8
                have K8 : Hid (Kept wb wtags wa (wr.setCell ⟨wb, 2, none⟩ (.int .i64 1))) := KR.out.trans hK8
                clear hJ8 hK8 JR KR
                have HL9 : Hid (Calls Tryz.prog 104 #[.pointer (some ⟨wb, 0, none⟩), .slice (some ⟨wr.heap.size, 0, none⟩) 1 1] ((wr.setCell ⟨wb, 2, none⟩ (.int .i64 1)).alloc (.cells #[.string ⟨#[125]⟩] 9)) fun e w' => e = .returned (.tuple #[]) ∧ WInv w' wb (pre8 ++ lnS 1 [[125]]) (1 : Nat) ∧ Kept wb wtags wa w') := by
                  have h := line_lit J8.out K8.out [[125]] (by decide) (by omega) (by simp) (by simp)
                  rw [show (wr.setCell ⟨wb, 2, none⟩ (.int .i64 1)).heap.size = wr.heap.size by simp [World.setCell]] at h
                  exact h
                go_wp2_with fail
                refine HL9.out.mono ?_
                rintro e w9 ⟨rfl, h2, h3⟩
                go_wp2
                go_end0
                rw [HPr7.out]
                exact ⟨rfl, h2, HKw.out.trans h3⟩
      · have HPr5 : Hid (l ++ res = (pre2 ++ P.toS r ++ P.repS r) ++ ((r.sets.map R.lnSet).flatten ++ (r.drops.map R.lnDrop).flatten ++ lnS 1 [[125]])) := by
          show _ = _
          rw [HPr4.out]; simp only [List.append_assoc]
        have hrs : P.repS r = lnS 2 [[114, 101, 112, 108, 97, 99, 101, 32], R.q r.rep, [59]] := by unfold P.repS; rw [if_neg hrep]
        have HDp1 : Hid (wa.ownsRow 0 9 1 (.slice d1 r.drops.length d2) r.drops.length (r.drops.map fun s => [Value.string (R.str s)]).flatten) := strRow1 HDp.out
        rw [hrs] at HPr5
        have hb0 : (R.str r.rep).toList.isEmpty = false := by
          rw [ByteArray.toList_eq, R.str_toList]
          cases h : r.rep with
          | nil => exact absurd h hrep
          | cons _ _ => rfl
        clear HPr4 HDp hrs hrep
        have UB5 := K5.out.cell HBX.out (by decide)
        have u5_4 : w5.cell? ⟨w.heap.size, 4, none⟩ = some (.string (R.str r.rep)) := cell_of_block UB5
        clear UB5
        go_wp2_with fail
        refine (HQr.out _).mono ?_
        rintro e wq ⟨rfl, hwq⟩
        rw [hwq]
        clear hwq wq
        go_wp2_with fail
        have HLp : Hid (Calls Tryz.prog 104 #[.pointer (some ⟨wb, 0, none⟩), .slice (some ⟨w5.heap.size, 0, none⟩) 3 3] (w5.alloc (.cells #[.string ⟨#[114, 101, 112, 108, 97, 99, 101, 32]⟩, .string (R.str (R.q r.rep)), .string ⟨#[59]⟩] 9)) fun e w' => e = .returned (.tuple #[]) ∧ WInv w' wb (pre2 ++ P.toS r ++ lnS 2 [[114, 101, 112, 108, 97, 99, 101, 32], R.q r.rep, [59]]) (2 : Nat) ∧ Kept wb wtags wa w') := by
          have h := line_lit J5.out K5.out [[114, 101, 112, 108, 97, 99, 101, 32], R.q r.rep, [59]] (by decide) (by omega) (by simp) (by simp only [List.flatten_cons, List.flatten_nil, List.length_append, List.length_cons, List.length_nil, R.q_len]; omega)
          exact h
        refine HLp.out.mono ?_
        rintro e wp ⟨rfl, hJp, hKp⟩
        have Jp : Hid (WInv wp wb (pre2 ++ P.toS r ++ lnS 2 [[114, 101, 112, 108, 97, 99, 101, 32], R.q r.rep, [59]]) (2 : Nat)) := hJp
        have Kp : Hid (Kept wb wtags wa wp) := hKp
        clear hJp hKp HLp
        have hzp : (pre2 ++ P.toS r ++ lnS 2 [[114, 101, 112, 108, 97, 99, 101, 32], R.q r.rep, [59]]).length ≤ 90000300000000 := by
          rw [List.length_append]
          unfold lnS
          simp only [List.flatten_cons, List.flatten_nil, List.length_append, List.length_cons, List.length_nil, List.length_replicate, R.q_len] at hz5 ⊢; omega
        generalize pre2 ++ P.toS r ++ lnS 2 [[114, 101, 112, 108, 97, 99, 101, 32], R.q r.rep, [59]] = pre at *
        clear J5 K5 HQr
        have UBbs := Kp.out.cell HBX.out (by decide)
        have ubs_5 : wp.cell? ⟨w.heap.size, 5, none⟩ = some (.slice x1 r.sets.length x2) := cell_of_block UBbs
        clear UBbs
        go_wp2_with fail
        go_loopw [58] (fun iv wr => ∃ k : Nat, k ≤ r.sets.length ∧ iv = .int .i64 k ∧ Hid (WInv wr wb (pre ++ ((r.sets.take k).map R.lnSet).flatten) (2 : Nat)) ∧ (pre ++ ((r.sets.take k).map R.lnSet).flatten).length ≤ 90000300000000 + 6100 * k ∧ Hid (Kept wb wtags wa wr)) (fun iv _ => r.sets.length - (intOf iv).toNat)
        case atStart => exact ⟨0, Nat.zero_le _, rfl, by rw [List.take_zero, List.map_nil, List.flatten_nil, List.append_nil]; exact Jp, by rw [List.take_zero, List.map_nil, List.flatten_nil, List.append_nil]; omega, Kp⟩
        case round =>
          obtain ⟨k, hk, rfl, JR, hsz, KR⟩ := hrel
          clear Jp Kp
          by_cases hlt : k < r.sets.length
          · have hkI : (k : Int) < r.sets.length := by omega
            obtain ⟨gm, gmc, hgm, _, hgl⟩ := World.ownsRow.form HSt.out (by omega)
            simp only [Value.slice.injEq] at hgm
            obtain ⟨rfl, _, rfl⟩ := hgm
            have hrw := row_kept HSt.out KR.out (by decide)
            have e0 : wr.cell? ⟨gm, k * 2, none⟩ = some (.string (R.str r.sets[k].1)) := row_get (fun t : List UInt8 × List UInt8 => [.string (R.str t.1), .string (R.str t.2)]) 2 (fun _ => rfl) hrw (grown_refl _ _) k 0 hlt (by omega) rfl
            have e1 : wr.cell? ⟨gm, k * 2 + 1, none⟩ = some (.string (R.str r.sets[k].2)) := row_get (fun t : List UInt8 × List UInt8 => [.string (R.str t.1), .string (R.str t.2)]) 2 (fun _ => rfl) hrw (grown_refl _ _) k 1 hlt (by omega) rfl
            clear hrw
            have hss := HsS.out r.sets[k] (List.getElem_mem hlt)
            have HNx := flat_snocM R.lnSet r.sets k hlt pre
            generalize hsk : r.sets[k] = st at *
            obtain ⟨sh, sv⟩ := st
            simp only at e0 e1 hss
            have HQ1 : Hid (∀ W, Calls Tryz.prog 105 #[.string (R.str sh)] W fun e w' => e = .returned (.string (R.str (R.q sh))) ∧ w' = W) := fun W => pro_quoted sh W hss.1
            have HQ2 : Hid (∀ W, Calls Tryz.prog 105 #[.string (R.str sv)] W fun e w' => e = .returned (.string (R.str (R.q sv))) ∧ w' = W) := fun W => pro_quoted sv W hss.2
            have HBs : Hid ((wr.alloc (.cells #[.string (R.str sh), .string (R.str sv)] 280)).heap[wr.heap.size]? = some (.cells #[.string (R.str sh), .string (R.str sv)] 280)) := heap_alloc_new _ _
            have b0 : (wr.alloc (.cells #[.string (R.str sh), .string (R.str sv)] 280)).cell? ⟨wr.heap.size, 0, none⟩ = some (.string (R.str sh)) := cell_of_block HBs.out
            have b1 : (wr.alloc (.cells #[.string (R.str sh), .string (R.str sv)] 280)).cell? ⟨wr.heap.size, 1, none⟩ = some (.string (R.str sv)) := cell_of_block HBs.out
            have HL5 : Hid (Calls Tryz.prog 104 #[.pointer (some ⟨wb, 0, none⟩), .slice (some ⟨wr.heap.size + 1, 0, none⟩) 5 5] (((wr.alloc (.cells #[.string (R.str sh), .string (R.str sv)] 280)).drew).alloc (.cells #[.string ⟨#[115, 101, 116, 32]⟩, .string (R.str (R.q sh)), .string ⟨#[32, 61, 32]⟩, .string (R.str (R.q sv)), .string ⟨#[59]⟩] 9)) fun e w' => e = .returned (.tuple #[]) ∧ WInv w' wb (pre ++ ((r.sets.take (k + 1)).map R.lnSet).flatten) (2 : Nat) ∧ Kept wb wtags wa w' ∧ (pre ++ ((r.sets.take (k + 1)).map R.lnSet).flatten).length ≤ 90000300000000 + 6100 * (k + 1) ∧ w'.cell? ⟨wr.heap.size, 0, none⟩ = some (.string (R.str sh)) ∧ w'.cell? ⟨wr.heap.size, 1, none⟩ = some (.string (R.str sv))) := by
              have gD : wr.grownBy (wr.alloc (.cells #[.string (R.str sh), .string (R.str sv)] 280)).drew none := grown_trans (World.grownBy_alloc _ _ none) (grown_drew _)
              have h := line_lit (w0 := (wr.alloc (.cells #[.string (R.str sh), .string (R.str sv)] 280)).drew) (JR.out.grown gD) (Kept.refl _ _ _) [[115, 101, 116, 32], R.q sh, [32, 61, 32], R.q sv, [59]] (by decide) (by omega) (by simp) (by simp only [List.flatten_cons, List.flatten_nil, List.length_append, List.length_cons, List.length_nil, R.q_len]; omega)
              rw [show ((wr.alloc (.cells #[.string (R.str sh), .string (R.str sv)] 280)).drew).heap.size = wr.heap.size + 1 by simp [World.drew]] at h
              have hln : (R.lnSet (sh, sv)).length ≤ 6100 := by
                unfold R.lnSet; simp only [List.length_append, R.q_len, List.length_cons, List.length_nil]; omega
              rw [HNx]
              refine Calls.mono h fun e w' ⟨q1, q2, q3⟩ => ⟨q1, ?_, (KR.out.trans (kept_none gD)).trans q3, by rw [List.length_append]; omega, cell_of_block (q3.cell (c := #[.string (R.str sh), .string (R.str sv)]) HBs.out (by decide)), cell_of_block (q3.cell (c := #[.string (R.str sh), .string (R.str sv)]) HBs.out (by decide))⟩
              rw [set_ln (sh, sv)] at q2; exact q2
            clear HNx hss HsS JR KR HBs
            go_wp2_with fail
            go_region_held3 (fun W => W.cell? ⟨wr.heap.size, 0, none⟩ = some (.string (R.str sh)) ∧ W.cell? ⟨wr.heap.size, 1, none⟩ = some (.string (R.str sv))) (go_keep) (first
              | (go_at_call 105; refine (HQ1.out _).mono ?_; rintro e w' ⟨rfl, rfl⟩)
              | (go_at_call 105; refine (HQ2.out _).mono ?_; rintro e w' ⟨rfl, rfl⟩)
              | (go_at_call 104; refine HL5.out.mono ?_; rintro e w3 ⟨rfl, h2, h3, h4, g4, g5⟩))
            all_goals
              go_wp2
              go_roundw
              case rel => exact ⟨k + 1, by omega, by go_num, h2, h4, h3⟩
              case measure => simp [intOf]; omega
          · have HE : k = r.sets.length := by omega
            subst HE
            rw [List.take_length] at JR hsz
            have HPr6 : Hid (l ++ res = (pre ++ (r.sets.map R.lnSet).flatten) ++ ((r.drops.map R.lnDrop).flatten ++ lnS 1 [[125]])) := by
              show _ = _
              rw [HPr5.out]; simp only [List.append_assoc]
            clear HPr5 HSt HsS
            generalize pre ++ (r.sets.map R.lnSet).flatten = pre at *
            have hz6 : pre.length ≤ 90000400000000 := by omega
            have J6 : Hid (WInv wr wb pre (2 : Nat)) := JR
            have K6 : Hid (Kept wb wtags wa wr) := KR
            clear hsz JR KR hk
            have UBbd := K6.out.cell HBX.out (by decide)
            have ubd_6 : wr.cell? ⟨w.heap.size, 6, none⟩ = some (.slice d1 r.drops.length d2) := cell_of_block UBbd
            clear UBbd
            go_wp2_with fail
            go_loopw [75] (fun iv wr => ∃ k : Nat, k ≤ r.drops.length ∧ iv = .int .i64 k ∧ Hid (WInv wr wb (pre ++ ((r.drops.take k).map R.lnDrop).flatten) (2 : Nat)) ∧ (pre ++ ((r.drops.take k).map R.lnDrop).flatten).length ≤ 90000400000000 + 6100 * k ∧ Hid (Kept wb wtags wa wr)) (fun iv _ => r.drops.length - (intOf iv).toNat)
            case atStart => exact ⟨0, Nat.zero_le _, rfl, by rw [List.take_zero, List.map_nil, List.flatten_nil, List.append_nil]; exact J6, by rw [List.take_zero, List.map_nil, List.flatten_nil, List.append_nil]; omega, K6⟩
            case round =>
              obtain ⟨k, hk, rfl, JR, hsz, KR⟩ := hrel
              clear J6 K6
              by_cases hlt : k < r.drops.length
              · have hkI : (k : Int) < r.drops.length := by omega
                obtain ⟨gm, gmc, hgm, _, hgl⟩ := World.ownsRow.form HDp1.out (by omega)
                simp only [Value.slice.injEq] at hgm
                obtain ⟨rfl, _, rfl⟩ := hgm
                have hrw := row_kept HDp1.out KR.out (by decide)
                have e0 : wr.cell? ⟨gm, k * 1, none⟩ = some (.string (R.str r.drops[k])) := row_get (fun s => [Value.string (R.str s)]) 1 (fun _ => rfl) hrw (grown_refl _ _) k 0 hlt (by omega) rfl
                clear hrw
                rw [Nat.mul_one] at e0
                have hds := HdS.out r.drops[k] (List.getElem_mem hlt)
                have HNx := flat_snocM R.lnDrop r.drops k hlt pre
                generalize r.drops[k] = dk at *
                have HQd : Hid (∀ W, Calls Tryz.prog 105 #[.string (R.str dk)] W fun e w' => e = .returned (.string (R.str (R.q dk))) ∧ w' = W) := fun W => pro_quoted dk W hds
                have HLd : Hid (Calls Tryz.prog 104 #[.pointer (some ⟨wb, 0, none⟩), .slice (some ⟨wr.heap.size, 0, none⟩) 3 3] (wr.alloc (.cells #[.string ⟨#[100, 114, 111, 112, 32]⟩, .string (R.str (R.q dk)), .string ⟨#[59]⟩] 9)) fun e w' => e = .returned (.tuple #[]) ∧ WInv w' wb (pre ++ ((r.drops.take (k + 1)).map R.lnDrop).flatten) (2 : Nat) ∧ Kept wb wtags wa w' ∧ (pre ++ ((r.drops.take (k + 1)).map R.lnDrop).flatten).length ≤ 90000400000000 + 6100 * (k + 1)) := by
                  have h := line_lit JR.out KR.out [[100, 114, 111, 112, 32], R.q dk, [59]] (by decide) (by omega) (by simp) (by simp only [List.flatten_cons, List.flatten_nil, List.length_append, List.length_cons, List.length_nil, R.q_len]; omega)
                  have hln : (R.lnDrop dk).length ≤ 6100 := by
                    unfold R.lnDrop; simp only [List.length_append, R.q_len, List.length_cons, List.length_nil]; omega
                  rw [HNx]
                  refine Calls.mono h fun e w' ⟨q1, q2, q3⟩ => ⟨q1, ?_, q3, by rw [List.length_append]; omega⟩
                  rw [drop_ln dk] at q2; exact q2
                clear HNx hds HdS JR KR
                go_wp2_with fail
                refine (HQd.out _).mono ?_
                rintro e wq ⟨rfl, hwq⟩
                rw [hwq]
                clear hwq wq
                go_wp2_with fail
                refine HLd.out.mono ?_
                rintro e w7 ⟨rfl, h2, h3, h4⟩
                go_wp2
                go_roundw
                case rel => exact ⟨k + 1, by omega, by go_num, h2, h4, h3⟩
                case measure => simp [intOf]; omega
              · have HE : k = r.drops.length := by omega
                subst HE
                rw [List.take_length] at JR hsz
                have HPr7 : Hid (l ++ res = (pre ++ (r.drops.map R.lnDrop).flatten) ++ lnS 1 [[125]]) := by
                  show _ = _
                  rw [HPr6.out]; simp only [List.append_assoc]
                clear HPr6 HDp1 HdS
                generalize pre ++ (r.drops.map R.lnDrop).flatten = pre8 at *
                have c8 : wr.cell? ⟨wb, 2, none⟩ = some (.int .i64 2) := WInv.op JR.out
                have f8 : wr.frozen? ⟨wb, 2, none⟩ = false := WInv.fz JR.out
                obtain ⟨hJ8, hK8⟩ := WInv.setOp JR.out (1 : Nat)
                have J8 : Hid (WInv (wr.setCell ⟨wb, 2, none⟩ (.int .i64 1)) wb pre8 (1 : Nat)) := hJ8
                have K8 : Hid (Kept wb wtags wa (wr.setCell ⟨wb, 2, none⟩ (.int .i64 1))) := KR.out.trans hK8
                clear hJ8 hK8 JR KR
                have HL9 : Hid (Calls Tryz.prog 104 #[.pointer (some ⟨wb, 0, none⟩), .slice (some ⟨wr.heap.size, 0, none⟩) 1 1] ((wr.setCell ⟨wb, 2, none⟩ (.int .i64 1)).alloc (.cells #[.string ⟨#[125]⟩] 9)) fun e w' => e = .returned (.tuple #[]) ∧ WInv w' wb (pre8 ++ lnS 1 [[125]]) (1 : Nat) ∧ Kept wb wtags wa w') := by
                  have h := line_lit J8.out K8.out [[125]] (by decide) (by omega) (by simp) (by simp)
                  rw [show (wr.setCell ⟨wb, 2, none⟩ (.int .i64 1)).heap.size = wr.heap.size by simp [World.setCell]] at h
                  exact h
                go_wp2_with fail
                refine HL9.out.mono ?_
                rintro e w9 ⟨rfl, h2, h3⟩
                go_wp2
                go_end0
                rw [HPr7.out]
                exact ⟨rfl, h2, HKw.out.trans h3⟩
end Go.Proofs.YtfocdefchbnkpaaGreatDoor
