/- The writer of a policy: a host. -/
import Derived.Test.YtfocdefchbnkpaaGreatDoorProZ6
namespace Go.Proofs.YtfocdefchbnkpaaGreatDoor
open Go.RowKit

theorem PRuleVal.kept {w w' : World} {B : Nat} {cs : List Value} {r : P.Rl} (h : PRuleVal w cs r) (hk : Kept B wtags w w') : PRuleVal w' cs r := by
  obtain ⟨vM, vT, vS, vD, e, h1, h2, h3, h4⟩ := h
  exact ⟨vM, vT, vS, vD, e, row_kept h1 hk (by decide), row_kept h2 hk (by decide), row_kept h3 hk (by decide), row_kept h4 hk (by decide)⟩

set_option maxRecDepth 100000 in
set_option maxHeartbeats 8000000 in
theorem pro_whost {w : World} {wb : Nat} {l : List UInt8} (h : WInv w wb l (0 : Nat)) (cs : List Value) (x : P.Hst) (hv : PHostVal w cs x) (hs : R.SmallH (toR x)) (hl : l.length ≤ 80000000000000) (hT : GT w) (hB : GTB wb) :
    Calls Tryz.prog 68 #[.pointer (some ⟨wb, 0, none⟩), .agg cs.toArray] w fun e w' => e = .returned (.tuple #[]) ∧ WInv w' wb (l ++ R.hostLines (toR x)) (0 : Nat) ∧ Kept wb wtags w w' := by
  obtain ⟨vR, rfl, css, hrow, hall⟩ := hv
  obtain ⟨r1, r2, rfl⟩ := len_row hrow
  have gA : w.grownBy (w.alloc (.cells #[.string (R.str x.name), .slice r1 x.rules.length r2] 146)) none := World.grownBy_alloc _ _ _
  have HBX : Hid ((w.alloc (.cells #[.string (R.str x.name), .slice r1 x.rules.length r2] 146)).heap[w.heap.size]? = some (.cells #[.string (R.str x.name), .slice r1 x.rules.length r2] 146)) := heap_alloc_new _ _
  have J0 : Hid (WInv (w.alloc (.cells #[.string (R.str x.name), .slice r1 x.rules.length r2] 146)) wb l (0 : Nat)) := h.grown gA
  have HT0 : Hid (GT (w.alloc (.cells #[.string (R.str x.name), .slice r1 x.rules.length r2] 146))) := hT.grown gA
  have HBd : Hid (GTB wb) := hB
  have HKw : Hid (Kept wb wtags w (w.alloc (.cells #[.string (R.str x.name), .slice r1 x.rules.length r2] 146))) := kept_none gA
  have HR : Hid ((w.alloc (.cells #[.string (R.str x.name), .slice r1 x.rules.length r2] 146)).ownsRow 0 213 7 (.slice r1 x.rules.length r2) x.rules.length css.flatten) := own_away hrow gA (fun k hk c => by cases c)
  have HA : Hid (All2 (PRuleVal (w.alloc (.cells #[.string (R.str x.name), .slice r1 x.rules.length r2] 146))) css x.rules) := hall.map fun a b hab => hab.keep gA (safe_none _ _)
  have K0 : Hid (Kept wb wtags (w.alloc (.cells #[.string (R.str x.name), .slice r1 x.rules.length r2] 146)) (w.alloc (.cells #[.string (R.str x.name), .slice r1 x.rules.length r2] 146))) := Kept.refl _ _ _
  have hname : x.name.length ≤ 3000 := hs.name
  have hrl : x.rules.length ≤ 4000 := by have := hs.rules.1; simpa [toR] using this
  have HSm : Hid (∀ r ∈ x.rules, R.Small (toRl r)) := fun r hr => hs.rules.2 (toRl r) (List.mem_map_of_mem hr)
  have HLn : Hid (lnS 0 [[104, 111, 115, 116, 32], R.q x.name, [32, 123]] ++ (x.rules.map (fun r => R.lines (toRl r))).flatten ++ lnS 0 [[125]] = R.hostLines (toR x)) := host_ln x
  have HQ : Hid (∀ W, Calls Tryz.prog 105 #[.string (R.str x.name)] W fun e w' => e = .returned (.string (R.str (R.q x.name))) ∧ w' = W) := fun W => pro_quoted x.name W hname
  have u0 : (w.alloc (.cells #[.string (R.str x.name), .slice r1 x.rules.length r2] 146)).cell? ⟨w.heap.size, 0, none⟩ = some (.string (R.str x.name)) := cell_of_block HBX.out
  clear h hT hB hrow hall hs
  generalize R.hostLines (toR x) = res at *
  go_enter Tryz.func68, Tryz.ntmps68
  go_wp2_with fail
  refine (HQ.out _).mono ?_
  rintro e wq ⟨rfl, hwq⟩
  subst hwq
  have hub : w.heap.size < (w.alloc (.cells #[.string (R.str x.name), .slice r1 x.rules.length r2] 146)).heap.size := block_lt HBX.out
  generalize w.alloc (.cells #[.string (R.str x.name), .slice r1 x.rules.length r2] 146) = wa at *
  clear HQ gA
  go_wp2_with fail
  have HL1 : Hid (Calls Tryz.prog 104 #[.pointer (some ⟨wb, 0, none⟩), .slice (some ⟨wa.heap.size, 0, none⟩) 3 3] (wa.alloc (.cells #[.string ⟨#[104, 111, 115, 116, 32]⟩, .string (R.str (R.q x.name)), .string ⟨#[32, 123]⟩] 9)) fun e w' => e = .returned (.tuple #[]) ∧ WInv w' wb (l ++ lnS 0 [[104, 111, 115, 116, 32], R.q x.name, [32, 123]]) (0 : Nat) ∧ Kept wb wtags wa w') := by
    have h := line_lit J0.out K0.out [[104, 111, 115, 116, 32], R.q x.name, [32, 123]] (by decide) (by omega) (by simp) (by simp only [List.flatten_cons, List.flatten_nil, List.length_append, List.length_cons, List.length_nil, R.q_len]; omega)
    exact h
  refine HL1.out.mono ?_
  rintro e w1 ⟨rfl, hJ1, hK1⟩
  have hz1 : (l ++ lnS 0 [[104, 111, 115, 116, 32], R.q x.name, [32, 123]]).length ≤ 80000000010000 := by
    unfold lnS
    simp only [List.flatten_cons, List.flatten_nil, List.length_append, List.length_cons, List.length_nil, List.length_replicate, R.q_len]; omega
  have HPr : Hid (l ++ res = (l ++ lnS 0 [[104, 111, 115, 116, 32], R.q x.name, [32, 123]]) ++ ((x.rules.map (fun r => R.lines (toRl r))).flatten ++ lnS 0 [[125]])) := by
    show _ = _
    rw [← HLn.out]; simp only [List.append_assoc]
  generalize l ++ lnS 0 [[104, 111, 115, 116, 32], R.q x.name, [32, 123]] = pre at *
  have c1 : w1.cell? ⟨wb, 2, none⟩ = some (.int .i64 0) := hJ1.op
  have f1 : w1.frozen? ⟨wb, 2, none⟩ = false := hJ1.fz
  obtain ⟨hJ2, hK2⟩ := hJ1.setOp (1 : Nat)
  have J2 : Hid (WInv (w1.setCell ⟨wb, 2, none⟩ (.int .i64 1)) wb pre (1 : Nat)) := hJ2
  have K2 : Hid (Kept wb wtags wa (w1.setCell ⟨wb, 2, none⟩ (.int .i64 1))) := hK1.trans hK2
  have UB2 := K2.out.cell HBX.out (by decide)
  have u2 : (w1.setCell ⟨wb, 2, none⟩ (.int .i64 1)).cell? ⟨w.heap.size, 1, none⟩ = some (.slice r1 x.rules.length r2) := cell_of_block UB2
  clear hJ1 hK1 hJ2 hK2 HL1 HLn J0 K0 UB2
  go_wp2_with fail
  go_loopw [22] (fun iv wr => ∃ k : Nat, k ≤ x.rules.length ∧ iv = .int .i64 k ∧ Hid (WInv wr wb (pre ++ ((x.rules.take k).map (fun r => R.lines (toRl r))).flatten) (1 : Nat)) ∧ (pre ++ ((x.rules.take k).map (fun r => R.lines (toRl r))).flatten).length ≤ 80000000010000 + 110000000 * k ∧ Hid (Kept wb wtags wa wr)) (fun iv _ => x.rules.length - (intOf iv).toNat)
  case atStart => exact ⟨0, Nat.zero_le _, rfl, by rw [List.take_zero, List.map_nil, List.flatten_nil, List.append_nil]; exact J2, by rw [List.take_zero, List.map_nil, List.flatten_nil, List.append_nil]; omega, K2⟩
  case round =>
    obtain ⟨k, hk, rfl, JR, hsz, KR⟩ := hrel
    clear J2 K2 u2 c1 f1 u0
    by_cases hlt : k < x.rules.length
    · have hkI : (k : Int) < x.rules.length := by omega
      obtain ⟨gm, gmc, hgm, _, hgl⟩ := World.ownsRow.form HR.out (by omega)
      simp only [Value.slice.injEq] at hgm
      obtain ⟨rfl, _, rfl⟩ := hgm
      have hrw := row_kept HR.out KR.out (by decide)
      obtain ⟨ce, hce, hcj⟩ := all2_at HA.out k hlt
      have hce2 := hce.kept KR.out
      have hsm := HSm.out x.rules[k] (List.getElem_mem hlt)
      have HNx := flat_snocM (fun r => R.lines (toRl r)) x.rules k hlt pre
      have hln := R.lines_len _ hsm
      have hcell : ∀ j, j < 7 → wr.cell? ⟨gm, k * 7 + j, none⟩ = ce[j]? := fun j hj => by
        rw [World.ownsRow.cellAt hrw (k * 7 + j) (by omega)]; exact hcj j hj
      generalize x.rules[k] = r at *
      obtain ⟨vM, vT, vS, vD, rfl, hM, hTg, hS, hD⟩ := id hce2
      obtain ⟨m1, m2, rfl⟩ := len_row hM
      obtain ⟨t1, t2, rfl⟩ := len_row hTg
      obtain ⟨x1, x2, rfl⟩ := len_row hS
      obtain ⟨d1, d2, rfl⟩ := len_row hD
      have e0 : wr.cell? ⟨gm, k * 7, none⟩ = some (.int .i64 r.number) := hcell 0 (by omega)
      have e1 : wr.cell? ⟨gm, k * 7 + 1, none⟩ = some (.string (R.str r.path)) := hcell 1 (by omega)
      have e2 : wr.cell? ⟨gm, k * 7 + 2, none⟩ = some (.slice m1 r.ms.length m2) := hcell 2 (by omega)
      have e3 : wr.cell? ⟨gm, k * 7 + 3, none⟩ = some (.slice t1 r.tg.length t2) := hcell 3 (by omega)
      have e4 : wr.cell? ⟨gm, k * 7 + 4, none⟩ = some (.string (R.str r.rep)) := hcell 4 (by omega)
      have e5 : wr.cell? ⟨gm, k * 7 + 5, none⟩ = some (.slice x1 r.sets.length x2) := hcell 5 (by omega)
      have e6 : wr.cell? ⟨gm, k * 7 + 6, none⟩ = some (.slice d1 r.drops.length d2) := hcell 6 (by omega)
      have HRl : Hid (Calls Tryz.prog 106 #[.pointer (some ⟨wb, 0, none⟩), .agg #[.int .i64 r.number, .string (R.str r.path), .slice m1 r.ms.length m2, .slice t1 r.tg.length t2, .string (R.str r.rep), .slice x1 r.sets.length x2, .slice d1 r.drops.length d2]] (wr.alloc (.cells #[.int .i64 r.number, .string (R.str r.path), .slice m1 r.ms.length m2, .slice t1 r.tg.length t2, .string (R.str r.rep), .slice x1 r.sets.length x2, .slice d1 r.drops.length d2] 213)) fun e w' => e = .returned (.tuple #[]) ∧ WInv w' wb (pre ++ ((x.rules.take (k + 1)).map (fun r => R.lines (toRl r))).flatten) (1 : Nat) ∧ Kept wb wtags wa w' ∧ (pre ++ ((x.rules.take (k + 1)).map (fun r => R.lines (toRl r))).flatten).length ≤ 80000000010000 + 110000000 * (k + 1)) := by
        have gB : wr.grownBy (wr.alloc (.cells #[.int .i64 r.number, .string (R.str r.path), .slice m1 r.ms.length m2, .slice t1 r.tg.length t2, .string (R.str r.rep), .slice x1 r.sets.length x2, .slice d1 r.drops.length d2] 213)) none := World.grownBy_alloc _ _ none
        refine (pro_wrule (JR.out.grown gB) _ r (hce2.keep gB (safe_none _ _)) hsm (by omega) ((HT0.out.kept KR.out HBd.out).grown gB) HBd.out).mono ?_
        rintro e w' ⟨rfl, q1, q2⟩
        rw [HNx]
        exact ⟨rfl, q1, (KR.out.trans (kept_none gB)).trans q2, by rw [List.length_append]; omega⟩
      clear HNx hln hsm hce hce2 hcj hcell hrw hM hTg hS hD HSm HA HR HT0 JR KR
      go_wp2_with (go_at_call 106; refine HRl.out.mono ?_; rintro e w2 ⟨rfl, h2, h3, h4⟩)
      go_roundw
      case rel => exact ⟨k + 1, by omega, by go_num, h2, h4, h3⟩
      case measure => simp [intOf]; omega
    · have HE : k = x.rules.length := by omega
      subst HE
      rw [List.take_length] at JR hsz
      have HPr7 : Hid (l ++ res = (pre ++ (x.rules.map (fun r => R.lines (toRl r))).flatten) ++ lnS 0 [[125]]) := by
        show _ = _
        rw [HPr.out]; simp only [List.append_assoc]
      clear HPr HA HR HSm
      generalize pre ++ (x.rules.map (fun r => R.lines (toRl r))).flatten = pre8 at *
      have c8 : wr.cell? ⟨wb, 2, none⟩ = some (.int .i64 1) := JR.out.op
      have f8 : wr.frozen? ⟨wb, 2, none⟩ = false := JR.out.fz
      obtain ⟨hJ8, hK8⟩ := JR.out.setOp (0 : Nat)
      have J8 : Hid (WInv (wr.setCell ⟨wb, 2, none⟩ (.int .i64 0)) wb pre8 (0 : Nat)) := hJ8
      have K8 : Hid (Kept wb wtags wa (wr.setCell ⟨wb, 2, none⟩ (.int .i64 0))) := KR.out.trans hK8
      clear hJ8 hK8 JR KR
      have HL9 : Hid (Calls Tryz.prog 104 #[.pointer (some ⟨wb, 0, none⟩), .slice (some ⟨wr.heap.size, 0, none⟩) 1 1] ((wr.setCell ⟨wb, 2, none⟩ (.int .i64 0)).alloc (.cells #[.string ⟨#[125]⟩] 9)) fun e w' => e = .returned (.tuple #[]) ∧ WInv w' wb (pre8 ++ lnS 0 [[125]]) (0 : Nat) ∧ Kept wb wtags wa w') := by
        have h := line_lit J8.out K8.out [[125]] (by decide) (by omega) (by simp) (by simp)
        rw [show (wr.setCell ⟨wb, 2, none⟩ (.int .i64 0)).heap.size = wr.heap.size by simp [World.setCell]] at h
        exact h
      go_wp2_with fail
      refine HL9.out.mono ?_
      rintro e w9 ⟨rfl, h2, h3⟩
      go_wp2
      go_end0
      rw [HPr7.out]
      exact ⟨rfl, h2, HKw.out.trans h3⟩
end Go.Proofs.YtfocdefchbnkpaaGreatDoor

/- A policy in its plain form, as the program writes it. -/
namespace Go.Proofs.YtfocdefchbnkpaaGreatDoor
open Go.RowKit

theorem PHostVal.kept {w w' : World} {B : Nat} {cs : List Value} {x : P.Hst} (h : PHostVal w cs x) (hk : Kept B wtags w w') : PHostVal w' cs x := by
  obtain ⟨vR, e, css, h1, h2⟩ := h
  exact ⟨vR, e, css, row_kept h1 hk (by decide), h2.map fun a b hab => hab.kept hk⟩
theorem hostLines_ne (x : R.Hst) : R.hostLines x ≠ [] := by unfold R.hostLines; simp
theorem hostLines_len (x : R.Hst) (hs : R.SmallH x) : (R.hostLines x).length ≤ 440000010000 := by
  have h1 : (x.rules.map R.lines).flatten.length ≤ x.rules.length * 110000000 := R.flat_len _ _ _ (fun r hr => R.lines_len r (hs.rules.2 r hr))
  have h2 := hs.rules.1
  have h3 := hs.name
  unfold R.hostLines
  simp only [List.length_append, R.q_len, List.length_cons, List.length_nil]
  omega
theorem take_flat_le {α : Type} (f : α → List UInt8) (l : List α) (k : Nat) : ((l.take k).map f).flatten.length ≤ (l.map f).flatten.length := by
  conv => rhs; rw [← List.take_append_drop k l, List.map_append, List.flatten_append, List.length_append]
  omega
theorem few_lines (hs : List P.Hst) (h1 : hs.length ≤ 12) (h2 : ∀ h ∈ hs, R.SmallH (toR h)) : (hs.map fun h => R.hostLines (toR h)).flatten.length ≤ 79000000000000 := by
  have h := R.flat_len (fun h : P.Hst => R.hostLines (toR h)) 440000010000 hs (fun x hx => hostLines_len _ (h2 x hx))
  omega

set_option maxRecDepth 100000 in
set_option maxHeartbeats 8000000 in
theorem pro_PPlain {w : World} (v : Value) (hs : List P.Hst) (hH : PHostsRow w 0 v hs) (hnl : hs.length ≤ 4000) (hn : (hs.map fun h => R.hostLines (toR h)).flatten.length ≤ 79000000000000) (hsm : ∀ h ∈ hs, R.SmallH (toR h)) (hT : GT w) :
    Calls Tryz.prog 42 #[.agg #[v]] w fun e w' => e = .returned (.string (R.str (R.plain (hs.map toR)))) ∧ w.grownBy w' none := by
  obtain ⟨css, hrow, hall⟩ := hH
  obtain ⟨h1, h2, rfl⟩ := len_row hrow
  have gA : w.grownBy ((w.alloc (.cells #[.slice h1 hs.length h2] 88)).alloc (.cells #[.pointer none, .slice none 0 0, .int .i64 0] 143)) none := grown_trans (World.grownBy_alloc _ _ none) (World.grownBy_alloc _ _ none)
  have HPB : Hid (((w.alloc (.cells #[.slice h1 hs.length h2] 88)).alloc (.cells #[.pointer none, .slice none 0 0, .int .i64 0] 143)).heap[w.heap.size]? = some (.cells #[.slice h1 hs.length h2] 88)) := keep_block (heap_alloc_new w (.cells #[.slice h1 hs.length h2] 88)) (World.grownBy_alloc _ _ none) (by simp)
  have HWB : Hid (((w.alloc (.cells #[.slice h1 hs.length h2] 88)).alloc (.cells #[.pointer none, .slice none 0 0, .int .i64 0] 143)).heap[w.heap.size + 1]? = some (.cells #[.pointer none, .slice none 0 0, .int .i64 0] 143)) := by
    have := heap_alloc_new (w.alloc (.cells #[.slice h1 hs.length h2] 88)) (.cells #[.pointer none, .slice none 0 0, .int .i64 0] 143)
    rw [show (w.alloc (.cells #[.slice h1 hs.length h2] 88)).heap.size = w.heap.size + 1 by simp] at this
    exact this
  have J0 : Hid (WInv ((w.alloc (.cells #[.slice h1 hs.length h2] 88)).alloc (.cells #[.pointer none, .slice none 0 0, .int .i64 0] 143)) (w.heap.size + 1) [] (0 : Nat)) := Or.inl ⟨_, HWB.out, World.ownsRow_nil _ _ _ _⟩
  have HT0 : Hid (GT ((w.alloc (.cells #[.slice h1 hs.length h2] 88)).alloc (.cells #[.pointer none, .slice none 0 0, .int .i64 0] 143))) := hT.grown gA
  have HBd : Hid (GTB (w.heap.size + 1)) := fun g e => Nat.lt_succ_of_lt (hT.bound g e)
  have HKw : Hid (Kept (w.heap.size + 1) wtags w ((w.alloc (.cells #[.slice h1 hs.length h2] 88)).alloc (.cells #[.pointer none, .slice none 0 0, .int .i64 0] 143))) := kept_none gA
  have HR : Hid (((w.alloc (.cells #[.slice h1 hs.length h2] 88)).alloc (.cells #[.pointer none, .slice none 0 0, .int .i64 0] 143)).ownsRow 0 146 2 (.slice h1 hs.length h2) hs.length css.flatten) := own_away hrow gA (fun k hk c => by cases c)
  have HA : Hid (All2 (PHostVal ((w.alloc (.cells #[.slice h1 hs.length h2] 88)).alloc (.cells #[.pointer none, .slice none 0 0, .int .i64 0] 143))) css hs) := hall.map fun a b hab => hab.keep gA (safe_none _ _)
  have K0 : Hid (Kept (w.heap.size + 1) wtags ((w.alloc (.cells #[.slice h1 hs.length h2] 88)).alloc (.cells #[.pointer none, .slice none 0 0, .int .i64 0] 143)) ((w.alloc (.cells #[.slice h1 hs.length h2] 88)).alloc (.cells #[.pointer none, .slice none 0 0, .int .i64 0] 143))) := Kept.refl _ _ _
  have HSm : Hid (∀ h ∈ hs, R.SmallH (toR h)) := hsm
  have HTot : Hid ((hs.map (fun h => R.hostLines (toR h))).flatten.length ≤ 79000000000000) := hn
  have HPl : Hid (R.plain (hs.map toR) = (hs.map (fun h => R.hostLines (toR h))).flatten) := plain_ln hs
  have u0 : ((w.alloc (.cells #[.slice h1 hs.length h2] 88)).alloc (.cells #[.pointer none, .slice none 0 0, .int .i64 0] 143)).cell? ⟨w.heap.size, 0, none⟩ = some (.slice h1 hs.length h2) := cell_of_block HPB.out
  have hub : w.heap.size + 1 < ((w.alloc (.cells #[.slice h1 hs.length h2] 88)).alloc (.cells #[.pointer none, .slice none 0 0, .int .i64 0] 143)).heap.size := block_lt HWB.out
  clear hT hrow hall hsm gA HPB hn
  generalize R.plain (hs.map toR) = res at *
  go_enter Tryz.func42, Tryz.ntmps42
  go_wp2_with fail
  generalize ((w.alloc (.cells #[.slice h1 hs.length h2] 88)).alloc (.cells #[.pointer none, .slice none 0 0, .int .i64 0] 143)) = wa at *
  go_loopw [9] (fun iv wr => ∃ k : Nat, k ≤ hs.length ∧ iv = .int .i64 k ∧ Hid (WInv wr (w.heap.size + 1) ((hs.take k).map (fun h => R.hostLines (toR h))).flatten (0 : Nat)) ∧ Hid (Kept (w.heap.size + 1) wtags wa wr) ∧ Hid (k = 0 → wr.heap[w.heap.size + 1]? = some (.cells #[.pointer none, .slice none 0 0, .int .i64 0] 143))) (fun iv _ => hs.length - (intOf iv).toNat)
  case atStart => exact ⟨0, Nat.zero_le _, rfl, by rw [List.take_zero, List.map_nil, List.flatten_nil]; exact J0, K0, fun _ => HWB.out⟩
  case round =>
    obtain ⟨k, hk, rfl, JR, KR, HZ⟩ := hrel
    clear J0 K0 u0 HWB
    by_cases hlt : k < hs.length
    · have hkI : (k : Int) < hs.length := by omega
      obtain ⟨gm, gmc, hgm, _, hgl⟩ := World.ownsRow.form HR.out (by omega)
      simp only [Value.slice.injEq] at hgm
      obtain ⟨rfl, _, rfl⟩ := hgm
      have hrw := row_kept HR.out KR.out (by decide)
      obtain ⟨ce, hce, hcj⟩ := all2_hat HA.out k hlt
      have hce2 := hce.kept KR.out
      have hsm := HSm.out hs[k] (List.getElem_mem hlt)
      have HNx := flat_snoc (fun h => R.hostLines (toR h)) hs k hlt
      have hln : ((hs.take k).map (fun h => R.hostLines (toR h))).flatten.length ≤ 79000000000000 := Nat.le_trans (take_flat_le _ hs k) HTot.out
      have hcell : ∀ j, j < 2 → wr.cell? ⟨gm, k * 2 + j, none⟩ = ce[j]? := fun j hj => by
        rw [World.ownsRow.cellAt hrw (k * 2 + j) (by omega)]; exact hcj j hj
      generalize hs[k] = x at *
      obtain ⟨vR, rfl, hR1⟩ := id hce2
      obtain ⟨r1, r2, rfl⟩ := prow_len hR1
      have e0 : wr.cell? ⟨gm, k * 2, none⟩ = some (.string (R.str x.name)) := hcell 0 (by omega)
      have e1 : wr.cell? ⟨gm, k * 2 + 1, none⟩ = some (.slice r1 x.rules.length r2) := hcell 1 (by omega)
      have HHo : Hid (Calls Tryz.prog 68 #[.pointer (some ⟨w.heap.size + 1, 0, none⟩), .agg #[.string (R.str x.name), .slice r1 x.rules.length r2]] (wr.alloc (.cells #[.string (R.str x.name), .slice r1 x.rules.length r2] 146)) fun e w' => e = .returned (.tuple #[]) ∧ WInv w' (w.heap.size + 1) ((hs.take (k + 1)).map (fun h => R.hostLines (toR h))).flatten (0 : Nat) ∧ Kept (w.heap.size + 1) wtags wa w') := by
        have gB : wr.grownBy (wr.alloc (.cells #[.string (R.str x.name), .slice r1 x.rules.length r2] 146)) none := World.grownBy_alloc _ _ none
        refine (pro_whost (JR.out.grown gB) _ x (hce2.keep gB (safe_none _ _)) hsm (by omega) ((HT0.out.kept KR.out HBd.out).grown gB) HBd.out).mono ?_
        rintro e w' ⟨rfl, q1, q2⟩
        rw [HNx]
        exact ⟨rfl, q1, (KR.out.trans (kept_none gB)).trans q2⟩
      clear HNx hln hsm hce hce2 hcj hcell hrw hR1 HSm HA HR HT0 JR KR HZ
      go_wp2_with (go_at_call 68; refine HHo.out.mono ?_; rintro e w2 ⟨rfl, h2, h3⟩)
      go_roundw
      case rel => exact ⟨k + 1, by omega, by go_num, h2, h3, fun h => absurd h (by omega)⟩
      case measure => simp [intOf]; omega
    · have HE : k = hs.length := by omega
      subst HE
      have HSt : Hid (Calls Tryz.prog 69 #[.pointer (some ⟨w.heap.size + 1, 0, none⟩)] wr fun e w' => e = .returned (.string (R.str res)) ∧ Kept (w.heap.size + 1) wtags wr w') := by
        show Calls _ _ _ _ _
        have hJ := JR.out
        rw [List.take_length] at hJ
        rw [HPl.out]
        by_cases h0 : hs.length = 0
        · have he : hs = [] := List.length_eq_zero_iff.1 h0
          subst he
          exact pro_wString0 (HZ.out rfl)
        · refine pro_wString hJ (fun hc => ?_)
          match hs, h0, hc with
          | x :: xs, _, hc =>
            rw [List.map_cons, List.flatten_cons] at hc
            exact hostLines_ne _ (List.append_eq_nil_iff.1 hc).1
      have HKf : Hid (Kept (w.heap.size + 1) wtags w wr) := HKw.out.trans KR.out
      clear JR KR HZ HPl HA HR HSm HT0 HKw
      go_wp2_with (go_at_call 69; refine HSt.out.mono ?_; rintro e w2 ⟨rfl, g2⟩)
      go_ret
      exact ⟨rfl, (HKf.out.trans g2).grown (Nat.le_succ _)⟩
end Go.Proofs.YtfocdefchbnkpaaGreatDoor

/- switchyard.Plain: a text in its plain form, as the program answers. -/
namespace Go.Proofs.YtfocdefchbnkpaaGreatDoor
open Go.RowKit

/-- What the document's own functions answer: the plain form, or nothing. -/
def R.plainT (l : List UInt8) : List UInt8 := if (R.errS l).1 = 0 then R.plain (R.sortH (R.readS l).1) else []

theorem errT_ok {l : List UInt8} (h : (P.errT l).1 = 0) : l.length ≤ 3000 ∧ (P.readS l).2.broken = false ∧ (P.readS l).2.err = 0 := by
  unfold P.errT at h
  by_cases hl : 3000 < l.length
  · rw [if_pos hl] at h; exact absurd h (by decide)
  · rw [if_neg hl] at h
    exact ⟨by omega, P.errS_zero h⟩
theorem errT_zero2 {l : List UInt8} (h : (P.errT l).1 = 0) : (P.errT l).2 = 0 := by
  obtain ⟨h1, h2, h3⟩ := errT_ok h
  unfold P.errT
  rw [if_neg (by omega)]
  unfold P.errS
  rw [h2, h3]; rfl
theorem plain_ok {l : List UInt8} {hs' : List P.Hst} (h : (P.errT l).1 = 0) (hs : SrtH (P.readS l).1 hs') :
    R.plainT l = R.plain (hs'.map toR) ∧ hs'.length ≤ 12 ∧ (∀ h ∈ hs', R.SmallH (toR h)) := by
  obtain ⟨h1, h2, h3⟩ := errT_ok h
  obtain ⟨hg, e⟩ := read_eq l h1 h2 h3
  rw [e] at hg
  have e2 := srt_eq hs hg
  obtain ⟨s1, s2⟩ := sortH_small hg
  rw [← e2] at s1 s2
  refine ⟨?_, ?_, fun x hx => s2 (toR x) (List.mem_map_of_mem hx)⟩
  · unfold R.plainT
    rw [if_pos (by rw [← P.errT_eq]; exact h), e, e2]
  · simp at s1; omega

set_option maxRecDepth 100000 in
set_option maxHeartbeats 4000000 in
theorem pro_Plain (s : ByteArray) (w : World) (hlen : s.size ≤ maxLen) (hG : Glob w) (hT : GT w) :
    Calls Tryz.prog 17 #[.string s] w fun e w' => e = .returned (.tuple #[.string (R.str (R.plainT s.data.toList)), .int .i64 (R.errS s.data.toList).1, .int .i64 (R.errS s.data.toList).2]) ∧ w.grownBy w' none := by
  have HRd : Hid (Calls Tryz.prog 41 #[.string s] w fun e w' => ∃ va vn vc, e = .returned (.tuple #[.agg #[.slice va vn vc], .int .i64 (P.errT s.data.toList).1, .int .i64 (P.errT s.data.toList).2]) ∧ w.grownBy w' none ∧ ((P.errT s.data.toList).1 = 0 → ∃ hs', PHostsRow w' 0 (.slice va vn vc) hs' ∧ SrtH (P.readS s.data.toList).1 hs')) := by
    refine (pro_read s w hlen hG (fun h1 h2 h3 => read_few _ (by rw [R.size_eq]; exact h1) h2 h3)).mono ?_
    rintro e w' ⟨v, rfl, h1, h2, va, vn, vc, rfl⟩
    exact ⟨va, vn, vc, rfl, h1, h2⟩
  have HPo : Hid (∀ hs', (P.errT s.data.toList).1 = 0 → SrtH (P.readS s.data.toList).1 hs' → R.plainT s.data.toList = R.plain (hs'.map toR) ∧ hs'.length ≤ 12 ∧ (∀ h ∈ hs', R.SmallH (toR h))) := fun hs' h1 h2 => plain_ok h1 h2
  have HPn : Hid ((P.errT s.data.toList).1 ≠ 0 → R.plainT s.data.toList = []) := fun h => by
    unfold R.plainT; rw [if_neg (by rw [← P.errT_eq]; exact h)]
  have HE2 : Hid ((P.errT s.data.toList).1 = 0 → (P.errT s.data.toList).2 = 0) := errT_zero2
  have HT : Hid (GT w) := hT
  rw [← P.errT_eq]
  clear hT hG
  generalize R.plainT s.data.toList = pt at *
  generalize P.errT s.data.toList = er at *
  generalize P.readS s.data.toList = rd at *
  obtain ⟨er1, er2⟩ := er
  simp only at HRd HPo HPn HE2 ⊢
  go_enter Tryz.func17, Tryz.ntmps17
  go_wp2_with fail
  refine HRd.out.mono ?_
  rintro e w1 ⟨va, vn, vc, rfl, hg1, hr1⟩
  have HG1 : Hid (w.grownBy w1 none) := hg1
  have HR1 : Hid _ := hr1
  have HGx : Hid (w1.grownBy (w1.alloc (.cells #[.slice va vn vc] 88)) none) := World.grownBy_alloc _ _ none
  clear hg1 hr1 HRd
  by_cases her : er1 = 0
  · subst her
    have her2 : er2 = 0 := HE2.out rfl
    subst her2
    obtain ⟨hs', hrow, hsrt⟩ := HR1.out rfl
    obtain ⟨q1, q2, q3⟩ := HPo.out hs' rfl hsrt
    have HPP : Hid (Calls Tryz.prog 42 #[.agg #[.slice va vn vc]] (w1.alloc (.cells #[.slice va vn vc] 88)) fun e w' => e = .returned (.string (R.str pt)) ∧ w.grownBy w' none) := by
      rw [q1]
      exact (pro_PPlain _ hs' (PHostsRow.keep hrow HGx.out (safe_none _ _)) (by omega) (few_lines _ q2 q3) q3 ((HT.out.grown HG1.out).grown HGx.out)).mono fun e w' ⟨k1, k2⟩ => ⟨k1, grown_trans (grown_trans HG1.out HGx.out) k2⟩
    clear q1 q2 q3 hrow hsrt HPo HPn HR1
    go_wp2_with (go_at_call 42; refine HPP.out.mono ?_; rintro e w2 ⟨rfl, g2⟩)
    go_ret3
    exact ⟨rfl, g2⟩
  · have HP0 : Hid (pt = []) := HPn.out her
    have hne : (er1 != 0) = true := by rw [bne_iff_ne]; exact her
    have HGf : Hid (w.grownBy (w1.alloc (.cells #[.slice va vn vc] 88)) none) := grown_trans HG1.out HGx.out
    clear HPo HPn HR1
    go_wp2
    go_ret3
    exact ⟨by rw [HP0.out]; rfl, HGf.out⟩
end Go.Proofs.YtfocdefchbnkpaaGreatDoor

/- The statement's own walks: one text, then all of them. -/
namespace Go.Proofs.YtfocdefchbnkpaaGreatDoor
open Go.RowKit

set_option maxRecDepth 100000 in
set_option maxHeartbeats 4000000 in
theorem law_num (n : Int) (w : World) : Calls Tryz.prog 36 #[.int .i64 n] w fun e w' => e = .returned (.int .i64 n) ∧ w' = w := by
  go_enter Tryz.func36, Tryz.ntmps36
  go_wp2
  go_ret
  exact ⟨rfl, rfl⟩

set_option maxRecDepth 100000 in
set_option maxHeartbeats 4000000 in
theorem law_plains (s : ByteArray) (w : World) (hlen : s.size ≤ maxLen) (hG : Glob w) (hT : GT w) :
    Calls Tryz.prog 14 #[.string s] w fun e w' => e = .returned (.bool true) ∧ w.grownBy w' none := by
  have HPl : Hid (Calls Tryz.prog 17 #[.string s] w fun e w' => e = .returned (.tuple #[.string (R.str (R.plainT s.data.toList)), .int .i64 (R.errS s.data.toList).1, .int .i64 (R.errS s.data.toList).2]) ∧ w.grownBy w' none) := pro_Plain s w hlen hG hT
  have HRp : Hid (∀ W, Calls Tryz.prog 34 #[.string s] W fun e w' => ∃ v, e = .returned (.tuple #[v, .int .i64 (R.errS s.data.toList).1, .int .i64 (R.errS s.data.toList).2]) ∧ Below W.heap.size W w' ∧ ((R.errS s.data.toList).1 = 0 → HostsRow w' W.heap.size v (R.sortH (R.readS s.data.toList).1))) := fun W => ref_Policy s W hlen
  have HOk : Hid ((R.errS s.data.toList).1 = 0 → R.plainT s.data.toList = R.plain (R.sortH (R.readS s.data.toList).1) ∧ (R.sortH (R.readS s.data.toList).1).length ≤ 4 ∧ ∀ h ∈ R.sortH (R.readS s.data.toList).1, R.SmallH h) := fun h => by
    obtain ⟨h1, h2, h3⟩ := errT_ok (by rw [P.errT_eq]; exact h)
    obtain ⟨hg, _⟩ := read_eq _ h1 h2 h3
    exact ⟨by unfold R.plainT; rw [if_pos h], sortH_small hg⟩
  have HNo : Hid ((R.errS s.data.toList).1 ≠ 0 → R.plainT s.data.toList = []) := fun h => by unfold R.plainT; rw [if_neg h]
  clear hG hT
  generalize R.plainT s.data.toList = pt at *
  generalize R.errS s.data.toList = er at *
  generalize R.sortH (R.readS s.data.toList).1 = hs at *
  obtain ⟨er1, er2⟩ := er
  simp only at HPl HRp HOk HNo
  have HN : Hid (∀ W, Calls Tryz.prog 36 #[.int .i64 er1] W fun e w' => e = .returned (.int .i64 er1) ∧ w' = W) := fun W => law_num er1 W
  go_enter Tryz.func14, Tryz.ntmps14
  go_wp2_with fail
  refine HPl.out.mono ?_
  rintro e w1 ⟨rfl, hg1⟩
  have HG1 : Hid (w.grownBy w1 none) := hg1
  clear hg1 HPl
  go_wp2_with fail
  refine (HRp.out w1).mono ?_
  rintro e w2 ⟨v, rfl, hb2, hr2⟩
  have HG2 : Hid (w.grownBy w2 none) := grown_trans HG1.out (grown_of_below hb2)
  have HR2 : Hid _ := hr2
  clear hb2 hr2 HRp
  by_cases her : er1 = 0
  · subst her
    obtain ⟨q1, q2, q3⟩ := HOk.out rfl
    have HPP : Hid (Calls Tryz.prog 35 #[v] w2 fun e w' => e = .returned (.string (R.str pt)) ∧ w.grownBy w' none) := by
      rw [q1]
      exact (ref_Plain v hs (HR2.out rfl) (by omega) q3).mono fun e w' ⟨k1, k2⟩ => ⟨k1, grown_trans HG2.out k2⟩
    clear q1 q2 q3 HOk HNo HR2 HG1
    go_wp2_with (first
      | (go_at_call 35; refine HPP.out.mono ?_; rintro e w3 ⟨rfl, g3⟩)
      | (go_at_call 36; refine (HN.out _).mono ?_; rintro e w' ⟨rfl, rfl⟩))
    go_ret
    exact ⟨rfl, g3⟩
  · have HP0 : Hid (pt = []) := HNo.out her
    have hp0 : R.str pt = ⟨#[]⟩ := by rw [HP0.out]; rfl
    have hne : (er1 == 0) = false := by rw [beq_eq_false_iff_ne]; exact her
    clear HOk HNo HR2 HG1
    go_wp2_with (go_at_call 36; refine (HN.out _).mono ?_; rintro e w' ⟨rfl, rfl⟩)
    go_ret
    exact ⟨rfl, HG2.out⟩

theorem Glob.grown {w w' : World} (h : Glob w) (hg : w.grownBy w' none) : Glob w' := h.keep hg (by simp)
theorem first_len : (⟨([104, 111, 115, 116, 32, 34, 65, 46, 98, 34, 123, 114, 117, 108, 101, 32, 55, 123, 112, 97, 116, 104, 34, 47, 120, 34, 59, 116, 111, 34, 117, 34, 49, 44, 34, 118, 34, 50, 59, 114, 101, 112, 108, 97, 99, 101, 34, 47, 34, 59, 125, 114, 117, 108, 101, 32, 57, 123, 112, 97, 116, 104, 34, 47, 34, 59, 116, 111, 34, 117, 34, 49, 44, 34, 118, 34, 48, 59, 125, 125] : List UInt8).toArray⟩ : ByteArray).size = 80 := by decide

set_option maxRecDepth 100000 in
set_option maxHeartbeats 4000000 in
/-- Of texts in memory: true, and nothing that was there has changed. -/
theorem law_Plains (bk o n c : Nat) (Sx : Nat → ByteArray) (w : World) (hx : ∀ j, j < n → w.cell? ⟨bk, o + j, none⟩ = some (.string (Sx j))) (hl : ∀ j, j < n → (Sx j).size ≤ maxLen) (hnl : n ≤ maxLen) (hG : Glob w) (hT : GT w) :
    Calls Tryz.prog 3 #[.slice (some ⟨bk, o, none⟩) n c] w fun e w' => e = .returned (.bool true) ∧ w.grownBy w' none := by
  have HPl : Hid (∀ (s : ByteArray) W, s.size ≤ maxLen → w.grownBy W none → Calls Tryz.prog 14 #[.string s] W fun e w' => e = .returned (.bool true) ∧ w.grownBy w' none) := fun s W hs hW => (law_plains s W hs (hG.grown hW) (hT.grown hW)).mono fun e w' ⟨h1, h2⟩ => ⟨h1, grown_trans hW h2⟩
  have HX : Hid (∀ j, j < n → w.cell? ⟨bk, o + j, none⟩ = some (.string (Sx j))) := hx
  have HL : Hid (∀ j, j < n → (Sx j).size ≤ maxLen) := hl
  unfold maxLen at hnl
  clear hx hl hG hT
  go_enter Tryz.func3, Tryz.ntmps3
  go_wp2_with fail
  refine (HPl.out _ w (by rw [first_len]; decide) (grown_refl _ _)).mono ?_
  rintro e w1 ⟨rfl, hg1⟩
  have HG1 : Hid (w.grownBy w1 none) := hg1
  clear hg1
  go_wp2_with fail
  go_loopw [3, 4] (fun ok iv wr => ∃ k : Nat, k ≤ n ∧ iv = .int .i64 k ∧ ok = .bool true ∧ Hid (w.grownBy wr none)) (fun _ iv _ => n - (intOf iv).toNat)
  case atStart => exact ⟨0, Nat.zero_le _, rfl, rfl, HG1⟩
  case round =>
    obtain ⟨k, hk, rfl, rfl, HG⟩ := hrel
    by_cases hlt : k < n
    · have hkI : (k : Int) < n := by omega
      have d0 : wr.cell? ⟨bk, o + k, none⟩ = some (.string (Sx k)) := HG.out.cell (a := ⟨bk, o + k, none⟩) (HX.out k hlt) (by simp)
      have HC : Hid (Calls Tryz.prog 14 #[.string (Sx k)] wr fun e w' => e = .returned (.bool true) ∧ w.grownBy w' none) := HPl.out _ wr (HL.out k hlt) HG.out
      generalize Sx k = x at *
      go_wp2_with (go_at_call 14; refine HC.out.mono ?_; rintro e w2 ⟨rfl, g2⟩)
      go_roundw
      case rel => exact ⟨k + 1, by omega, by go_num, rfl, g2⟩
      case measure => simp [intOf]; omega
    · have hE : k = n := by omega
      subst hE
      go_wp2
      go_ret
      exact ⟨rfl, HG.out⟩
set_option maxRecDepth 100000 in
set_option maxHeartbeats 4000000 in
theorem law_Plains_zero (a0 : Option Addr) (c : Nat) (w : World) (hG : Glob w) (hT : GT w) :
    Calls Tryz.prog 3 #[.slice a0 0 c] w fun e w' => e = .returned (.bool true) ∧ w.grownBy w' none := by
  have HPl : Hid (∀ (s : ByteArray), s.size ≤ maxLen → Calls Tryz.prog 14 #[.string s] w fun e w' => e = .returned (.bool true) ∧ w.grownBy w' none) := fun s hs => law_plains s w hs hG hT
  clear hG hT
  go_enter Tryz.func3, Tryz.ntmps3
  go_wp2_with fail
  refine (HPl.out _ (by rw [first_len]; decide)).mono ?_
  rintro e w1 ⟨rfl, hg1⟩
  have HG1 : Hid (w.grownBy w1 none) := hg1
  clear hg1
  go_wp2_with fail
  refine wp_loop_rounds 1 ?_
  rw [rounds_succ]
  go_wp2
  go_ret
  exact ⟨rfl, HG1.out⟩
end Go.Proofs.YtfocdefchbnkpaaGreatDoor
