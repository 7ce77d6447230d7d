/- Rules in the order of their numbers: what the document's own function makes of them, in new memory. -/
import Derived.Test.YtfocdefchbnkpaaGreatDoorRefK
import Derived.Deep.AppendLies
import Derived.Maps.AppendAt
import Derived.Laws.AppendOwnNone
namespace Go.Proofs.YtfocdefchbnkpaaGreatDoor
open Go.RowKit

theorem info_rlM : (Tryz.prog.info? 126).map (fun i => (i.zero, i.size, i.bytes)) = some (some (.agg #[.int .i64 0, .string ⟨#[]⟩, .slice none 0 0, .slice none 0 0, .bool false, .string ⟨#[]⟩, .slice none 0 0, .slice none 0 0]), 8, 144) := by kernel_rfl

theorem grown_drewN (w : World) (n : Nat) : w.grownBy (w.drewN n) none := by
  induction n with
  | zero => exact grown_refl _ _
  | succ n ih => exact grown_trans ih (grown_drew _)
theorem grown_below_none {w w' : World} (h : Below w.heap.size w w') : w.grownBy w' none := grown_of_below h
def R.insK (r : R.Rl) (out : List R.Rl) : Nat := (out.takeWhile fun o => decide (o.number < r.number)).length
def R.ins (out : List R.Rl) (r : R.Rl) : List R.Rl := out.take (R.insK r out) ++ [r] ++ out.drop (R.insK r out)
def R.sorted (l : List R.Rl) : List R.Rl := l.foldl R.ins []
theorem takeWhile_at {α : Type} (p : α → Bool) (l : List α) (k : Nat) (hk : k ≤ l.length) (h1 : ∀ j (hj : j < k), p (l[j]'(by omega)) = true) (h2 : ∀ (h : k < l.length), p l[k] = false) : (l.takeWhile p).length = k := by
  induction l generalizing k with
  | nil => simp at hk; subst hk; rfl
  | cons a l ih =>
    match k with
    | 0 =>
      have := h2 (by simp)
      simp at this
      rw [List.takeWhile_cons, this]; rfl
    | k + 1 =>
      have h0 := h1 0 (by omega)
      simp at h0
      rw [List.takeWhile_cons, h0, if_pos rfl, List.length_cons, ih k (by simpa using hk) (fun j hj => by have := h1 (j + 1) (by omega); simpa using this) (fun h => by have := h2 (by simpa using h); simpa using this)]
theorem insK_le (r : R.Rl) (out : List R.Rl) : R.insK r out ≤ out.length := by
  unfold R.insK
  exact (List.takeWhile_sublist _).length_le
theorem ins_len (out : List R.Rl) (r : R.Rl) : (R.ins out r).length = out.length + 1 := by
  have := insK_le r out
  unfold R.ins
  simp
  omega
theorem sorted_snoc (l : List R.Rl) (r : R.Rl) : R.sorted (l ++ [r]) = R.ins (R.sorted l) r := by
  unfold R.sorted; rw [List.foldl_append]; rfl
theorem sorted_len (l : List R.Rl) : (R.sorted l).length = l.length := by
  unfold R.sorted
  have : ∀ (l out : List R.Rl), (l.foldl R.ins out).length = out.length + l.length := by
    intro l
    induction l with
    | nil => intro out; rfl
    | cons a l ih => intro out; rw [List.foldl_cons, ih, ins_len]; simp; omega
  rw [this]; simp

theorem All2.len {α β : Type} {P : α → β → Prop} {l : List α} {m : List β} (h : All2 P l m) : l.length = m.length := by
  induction h with
  | nil => rfl
  | cons _ _ ih => simp [ih]
theorem rules_cell {w : World} {css : List (List Value)} {rs : List R.Rl} (h : All2 (RuleVal w) css rs) (k j : Nat) (hk : k < rs.length) (hj : j < 8) : css.flatten[k * 8 + j]? = (css[k]'(by rw [All2.len h]; exact hk))[j]? := by
  induction h generalizing k with
  | nil => simp at hk
  | @cons c r cs rs hc _ ih =>
    have e : c.length = 8 := by obtain ⟨vM, vT, vS, vD, rfl, _⟩ := hc; rfl
    match k with
    | 0 => rw [List.flatten_cons, List.getElem?_append_left (by omega)]; simp
    | k + 1 =>
      rw [List.flatten_cons, List.getElem?_append_right (by omega), e, show (k + 1) * 8 + j - 8 = k * 8 + j by omega, ih k (by simpa using hk)]; simp

theorem own_cap {w : World} {B : Nat} {e : TypeId} {sz : Nat} {a : Addr} {n cap : Nat} {xs : List Value} (h : w.ownsRow B e sz (.slice (some a) n cap) n xs) : n ≤ cap ∧ cap ≤ maxLen := by
  rcases h.2 with ⟨h1, _⟩ | ⟨g, c, cur, h1, _, _, h2, h3, _⟩
  · cases h1
  · simp only [Value.slice.injEq] at h1
    rw [h1.2.2]; exact ⟨h2, h3⟩
theorem All2.take {α β : Type} {P : α → β → Prop} {l : List α} {m : List β} (h : All2 P l m) (k : Nat) : All2 P (l.take k) (m.take k) := by
  induction h generalizing k with
  | nil => simp; exact .nil
  | cons h _ ih =>
    match k with
    | 0 => simp; exact .nil
    | k + 1 => exact .cons h (ih k)
theorem All2.drop {α β : Type} {P : α → β → Prop} {l : List α} {m : List β} (h : All2 P l m) (k : Nat) : All2 P (l.drop k) (m.drop k) := by
  induction h generalizing k with
  | nil => simp; exact .nil
  | cons h t ih =>
    match k with
    | 0 => exact .cons h t
    | k + 1 => exact ih k
theorem All2.append {α β : Type} {P : α → β → Prop} {l l' : List α} {m m' : List β} (h : All2 P l m) (h' : All2 P l' m') : All2 P (l ++ l') (m ++ m') := by
  induction h with
  | nil => exact h'
  | cons h _ ih => exact .cons h ih
theorem All2.get {α β : Type} {P : α → β → Prop} {l : List α} {m : List β} (h : All2 P l m) (k : Nat) (h1 : k < l.length) (h2 : k < m.length) : P l[k] m[k] := by
  induction h generalizing k with
  | nil => simp at h1
  | cons h _ ih =>
    match k with
    | 0 => exact h
    | k + 1 => exact ih k (by simpa using h1) (by simpa using h2)

theorem rule_one {w : World} {cs : List Value} {r : R.Rl} (h : RuleVal w cs r) : ∀ u ∈ cs, u.oneCell' = true := by
  obtain ⟨vM, vT, vS, vD, rfl, h1, h2, h3, h4⟩ := h
  obtain ⟨_, _, rfl⟩ := len_row h1
  obtain ⟨_, _, rfl⟩ := len_row h2
  obtain ⟨_, _, rfl⟩ := len_row h3
  obtain ⟨_, _, rfl⟩ := len_row h4
  intro u hu
  simp at hu
  rcases hu with rfl | rfl | rfl | rfl | rfl | rfl | rfl | rfl <;> rfl
theorem rules_one {w : World} {css : List (List Value)} {rs : List R.Rl} (h : All2 (RuleVal w) css rs) : ∀ u ∈ css.flatten, u.oneCell' = true := by
  induction h with
  | nil => intro u hu; simp at hu
  | cons h _ ih =>
    intro u hu
    rw [List.flatten_cons, List.mem_append] at hu
    rcases hu with hu | hu
    · exact rule_one h u hu
    · exact ih u hu
theorem rule_len {w : World} {cs : List Value} {r : R.Rl} (h : RuleVal w cs r) : cs.length = 8 := by
  obtain ⟨vM, vT, vS, vD, rfl, _⟩ := h; rfl
theorem flat_take {w : World} {css : List (List Value)} {rs : List R.Rl} (h : All2 (RuleVal w) css rs) (k : Nat) : (css.take k).flatten = css.flatten.take (k * 8) := by
  induction h generalizing k with
  | nil => simp
  | @cons c r cs rs h _ ih =>
    match k with
    | 0 => simp
    | k + 1 =>
      have e := rule_len h
      rw [List.take_succ_cons, List.flatten_cons, List.flatten_cons, ih k, List.take_append, e, List.take_of_length_le (l := c) (by omega), show (k + 1) * 8 - 8 = k * 8 by omega]
theorem flat_drop {w : World} {css : List (List Value)} {rs : List R.Rl} (h : All2 (RuleVal w) css rs) (k : Nat) : (css.drop k).flatten = css.flatten.drop (k * 8) := by
  induction h generalizing k with
  | nil => simp
  | @cons c r cs rs h _ ih =>
    match k with
    | 0 => simp
    | k + 1 =>
      have e := rule_len h
      rw [List.drop_succ_cons, List.flatten_cons, ih k, List.drop_append, e, List.drop_of_length_le (l := c) (by omega), show (k + 1) * 8 - 8 = k * 8 by omega]; rfl

set_option maxRecDepth 100000 in
set_option maxHeartbeats 4000000 in
theorem ref_sorted {w : World} (v : Value) (rs : List R.Rl) (hv : RulesRow w v rs) (hn : rs.length ≤ 4000) :
    Calls Tryz.prog 53 #[v] w fun e w' => ∃ v', e = .returned v' ∧ Below w.heap.size w w' ∧ RulesRow w' v' (R.sorted rs) := by
  obtain ⟨i0, hi, hz0, hz1, hz2⟩ := info_parts info_rlM
  obtain ⟨css, hrow, hall⟩ := hv
  obtain ⟨la, lc, rfl⟩ := len_row hrow
  have HRow : Hid _ := hrow
  have HAll : Hid _ := hall
  clear hrow hall
  go_enter Tryz.func53, Tryz.ntmps53
  go_wp2
  go_loopw [3, 4] (fun v iv wr => ∃ (i : Nat) (cs : List (List Value)), i ≤ rs.length ∧ iv = .int .i64 i ∧ Hid (wr.ownsRow w.heap.size 126 8 v i cs.flatten) ∧ Hid (All2 (RuleVal wr) cs (R.sorted (rs.take i))) ∧ Hid (Below w.heap.size w wr)) (fun _ iv _ => rs.length - (intOf iv).toNat)
  case atStart => exact ⟨0, [], Nat.zero_le _, rfl, World.ownsRow_nil _ _ _ _, .nil, Below.refl _ _⟩
  case round =>
    obtain ⟨i, cs, hil, rfl, HO, HA, HB⟩ := hrel
    have hso : (R.sorted (rs.take i)).length = i := by rw [sorted_len, List.length_take]; omega
    have hcl : cs.length = i := by rw [HA.out.len, hso]
    obtain ⟨oa, oc, rfl⟩ := len_row HO.out
    have zwr : w.heap.size ≤ wr.heap.size := HB.out.size
    by_cases hlt : i < rs.length
    · obtain ⟨gl, gc, hgv, _, hgll⟩ := World.ownsRow.form HRow.out (by omega)
      simp only [Value.slice.injEq] at hgv
      obtain ⟨rfl, _, rfl⟩ := hgv
      have c1 : wr.cell? ⟨gl, i * 8, none⟩ = some (.int .i64 rs[i].number) := by
        have hcc := World.ownsRow.cellAt HRow.out (i * 8) (by omega)
        rw [rules_number HAll.out i hlt] at hcc
        rw [HB.out.cell (p := ⟨gl, i * 8, none⟩) hgll]; exact hcc
      have HS : Hid (R.sorted (rs.take (i + 1)) = R.ins (R.sorted (rs.take i)) rs[i]) := by
        show R.sorted _ = _
        rw [List.take_succ_eq_append_getElem hlt, sorted_snoc]
      generalize R.sorted (rs.take i) = out at *
      obtain ⟨wo, hwo⟩ : ∃ x, x = wr := ⟨wr, rfl⟩
      subst hwo
      go_wp2
      go_loopw [5] (fun kv wz => ∃ k : Nat, k ≤ i ∧ kv = .int .i64 k ∧ Hid (∀ j (hj : j < k) (ho : j < out.length), out[j].number < rs[i].number) ∧ Hid (wo.grownBy wz none)) (fun kv _ => i - (intOf kv).toNat)
      case atStart => exact ⟨0, Nat.zero_le _, rfl, fun j hj => absurd hj (by omega), grown_refl _ _⟩
      case round =>
        obtain ⟨k, hki, rfl, HK, HZ⟩ := hrel
        have d1 : wr.cell? ⟨gl, i * 8, none⟩ = some (.int .i64 rs[i].number) := by
          exact HZ.out.cell c1 (by simp)
        have HOz : Hid _ := own_kept_box HO.out (grown_wide HZ.out (some wr.heap.size)) (fun k hk => by have h1 := (World.ownsRow.lt HO.out k hk).2; have h2 := HZ.out.size; omega)
        have HAz : Hid (All2 (RuleVal wr) cs out) := HA.out.map fun a b hab => hab.keep HZ.out (safe_none _ _)
        have HBz : Hid (Below w.heap.size w wr) := HB.out.trans ((below_of_grown HZ.out).mono zwr)
        have zz : wo.heap.size ≤ wr.heap.size := HZ.out.size
        by_cases hk : k < i
        · obtain ⟨go, goc, hgo, _, _⟩ := World.ownsRow.form HOz.out (by omega)
          simp only [Value.slice.injEq] at hgo
          obtain ⟨rfl, _, rfl⟩ := hgo
          have hkI : (k : Int) < i := by omega
          have d2 : wr.cell? ⟨go, k * 8, none⟩ = some (.int .i64 out[k].number) := by
            have hcc := World.ownsRow.cellAt HOz.out (k * 8) (by omega)
            rw [rules_number HAz.out k (by omega)] at hcc
            exact hcc
          by_cases hnl : out[k].number < rs[i].number
          · have HK2 : Hid (∀ j (hj : j < k + 1) (ho : j < out.length), out[j].number < rs[i].number) := by
              intro j hj ho
              by_cases e : j = k
              · subst e; exact hnl
              · exact HK.out j (by omega) ho
            generalize hok : out[k].number = ok at *
            generalize hri : rs[i].number = ri at *
            go_wp2_with fail
            go_quiet (fail)
            go_wp2
            exact ⟨⟨k + 1, by omega, by go_num, HK2, grown_trans HZ.out (grown_drewN _ _)⟩, by simp [intOf]; omega⟩
          · have HIk : Hid (R.insK rs[i] out = k) := takeWhile_at _ _ _ (by omega) (fun j hj => decide_eq_true (HK.out j hj (by omega))) (fun _ => decide_eq_false hnl)
            go_wp2_with fail
            go_quiet (fail)
            have HGq : Hid _ := grown_drewN wr nq
            have HOq : Hid _ := own_away HOz.out HGq.out (fun k hk c => by cases c)
            have HAq : Hid (All2 (RuleVal (wr.drewN nq)) cs out) := HAz.out.map fun a b hab => hab.keep HGq.out (safe_none _ _)
            have HBq : Hid (Below w.heap.size w (wr.drewN nq)) := HBz.out.trans ((below_of_grown HGq.out).mono (by omega))
            generalize wr.drewN nq = wq at *
            obtain ⟨vM, vT, vS, vD, hcsi, hM, hT, hS2, hD⟩ := All2.get HAll.out i (by rw [HAll.out.len]; exact hlt) hlt
            obtain ⟨m1, m2, rfl⟩ := len_row hM
            obtain ⟨t1, t2, rfl⟩ := len_row hT
            obtain ⟨x1, x2, rfl⟩ := len_row hS2
            obtain ⟨e1, e2, rfl⟩ := len_row hD
            have HRi : Hid (RuleVal w [.int .i64 rs[i].number, .string (R.str rs[i].path), .slice m1 rs[i].ms.length m2, .slice t1 rs[i].tg.length t2, .bool rs[i].change, .string (R.str rs[i].to), .slice x1 rs[i].sets.length x2, .slice e1 rs[i].drops.length e2] rs[i]) := ⟨_, _, _, _, rfl, hM, hT, hS2, hD⟩
            clear hM hT hS2 hD
            have hgw : w.grownBy wq none := grown_below_none HBq.out
            have zq : w.heap.size ≤ wq.heap.size := HBq.out.size
            have hglq : gl < wq.heap.size := by have := hgw.size; omega
            have H0 : Hid (wq.cell? ⟨gl, i * 8, none⟩ = some (.int .i64 rs[i].number)) := by
              refine hgw.cell (a := ⟨gl, i * 8, none⟩) ?_ (by simp)
              rw [World.ownsRow.cellAt HRow.out (i * 8) (by omega), show css.flatten[i * 8]? = css.flatten[i * 8 + 0]? from rfl, rules_cell HAll.out i 0 hlt (by omega), hcsi]; rfl
            have H1 : Hid (wq.cell? ⟨gl, i * 8 + 1, none⟩ = some (.string (R.str rs[i].path))) := by
              refine hgw.cell (a := ⟨gl, i * 8 + 1, none⟩) ?_ (by simp)
              rw [World.ownsRow.cellAt HRow.out (i * 8 + 1) (by omega), rules_cell HAll.out i 1 hlt (by omega), hcsi]; rfl
            have H2 : Hid (wq.cell? ⟨gl, i * 8 + 2, none⟩ = some (.slice m1 rs[i].ms.length m2)) := by
              refine hgw.cell (a := ⟨gl, i * 8 + 2, none⟩) ?_ (by simp)
              rw [World.ownsRow.cellAt HRow.out (i * 8 + 2) (by omega), rules_cell HAll.out i 2 hlt (by omega), hcsi]; rfl
            have H3 : Hid (wq.cell? ⟨gl, i * 8 + 3, none⟩ = some (.slice t1 rs[i].tg.length t2)) := by
              refine hgw.cell (a := ⟨gl, i * 8 + 3, none⟩) ?_ (by simp)
              rw [World.ownsRow.cellAt HRow.out (i * 8 + 3) (by omega), rules_cell HAll.out i 3 hlt (by omega), hcsi]; rfl
            have H4 : Hid (wq.cell? ⟨gl, i * 8 + 4, none⟩ = some (.bool rs[i].change)) := by
              refine hgw.cell (a := ⟨gl, i * 8 + 4, none⟩) ?_ (by simp)
              rw [World.ownsRow.cellAt HRow.out (i * 8 + 4) (by omega), rules_cell HAll.out i 4 hlt (by omega), hcsi]; rfl
            have H5 : Hid (wq.cell? ⟨gl, i * 8 + 5, none⟩ = some (.string (R.str rs[i].to))) := by
              refine hgw.cell (a := ⟨gl, i * 8 + 5, none⟩) ?_ (by simp)
              rw [World.ownsRow.cellAt HRow.out (i * 8 + 5) (by omega), rules_cell HAll.out i 5 hlt (by omega), hcsi]; rfl
            have H6 : Hid (wq.cell? ⟨gl, i * 8 + 6, none⟩ = some (.slice x1 rs[i].sets.length x2)) := by
              refine hgw.cell (a := ⟨gl, i * 8 + 6, none⟩) ?_ (by simp)
              rw [World.ownsRow.cellAt HRow.out (i * 8 + 6) (by omega), rules_cell HAll.out i 6 hlt (by omega), hcsi]; rfl
            have H7 : Hid (wq.cell? ⟨gl, i * 8 + 7, none⟩ = some (.slice e1 rs[i].drops.length e2)) := by
              refine hgw.cell (a := ⟨gl, i * 8 + 7, none⟩) ?_ (by simp)
              rw [World.ownsRow.cellAt HRow.out (i * 8 + 7) (by omega), rules_cell HAll.out i 7 hlt (by omega), hcsi]; rfl
            clear hcsi hgw
            have HRq : Hid (RuleVal wq [.int .i64 rs[i].number, .string (R.str rs[i].path), .slice m1 rs[i].ms.length m2, .slice t1 rs[i].tg.length t2, .bool rs[i].change, .string (R.str rs[i].to), .slice x1 rs[i].sets.length x2, .slice e1 rs[i].drops.length e2] rs[i]) := HRi.out.keep (grown_below_none HBq.out) (safe_none _ _)
            have HW : Hid (∀ j u, (cs.flatten)[j]? = some u → wq.cell? ⟨go, j, none⟩ = some u) := by
              intro j u hu
              have hjl := (List.getElem?_eq_some_iff.1 hu).1
              rw [HOq.out.1] at hjl
              rw [World.ownsRow.cellAt HOq.out j hjl]; exact hu
            have hcap := own_cap HOq.out
            unfold maxLen at hcap
            obtain ⟨hcap1, hcap2⟩ := hcap
            have HFl : Hid (cs.flatten.length = i * 8) := HOq.out.1
            have HOne : Hid (∀ u ∈ cs.flatten, u.oneCell' = true) := rules_one HAq.out
            go_wp2_with (at_builtin; refine wpList_append_own _ rfl _ _ 117 rfl (wq.heap.size) 126 i0 _ 8 144 Tryz.underlying117 hi hz0 hz1 hz2 rfl (by decide) _ _ _ rfl (World.ownsRow_nil _ _ _ _) ⟨go, 0, none⟩ k oc (cs.flatten.take (k * 8)) rfl ?a1 ?a2 ?a3 ?a4 ?a5 ?a6 ?_)
            case a1 => rw [List.length_take, HFl.out]; omega
            case a2 =>
              intro j u hu
              rw [add_off]
              rw [List.getElem?_take] at hu
              split at hu
              · exact HW.out j u hu
              · cases hu
            case a3 => exact fun u hu => HOne.out u (List.mem_of_mem_take hu)
            case a4 => unfold maxLen; omega
            case a5 => omega
            case a6 => exact Nat.le_refl _
            intro v1 w1 hown1 hgrow1 _
            obtain ⟨n1a, n1c, rfl⟩ := len_row hown1
            have g1 : wq.grownBy w1 none := hgrow1
            have HO1 : Hid _ := hown1
            have HQ1 : Hid _ := own_away HOq.out hgrow1 (fun k hk c => by cases c)
            have z1 : wq.heap.size ≤ w1.heap.size := hgrow1.size
            have d0 := g1.cell H0.out (by simp)
            have d1 := g1.cell H1.out (by simp)
            have d2 := g1.cell H2.out (by simp)
            have d3 := g1.cell H3.out (by simp)
            have d4 := g1.cell H4.out (by simp)
            have d5 := g1.cell H5.out (by simp)
            have d6 := g1.cell H6.out (by simp)
            have d7 := g1.cell H7.out (by simp)
            have HG1 : Hid _ := g1
            clear hown1 hgrow1 g1
            go_wp2_with (at_builtin; refine wpList_append_lies _ rfl _ _ 117 rfl (wq.heap.size) 126 i0 _ 8 144 Tryz.underlying117 hi hz0 hz1 hz2 rfl (by decide) _ _ _ rfl (World.ownsRow.alloc HO1.out _) ⟨w1.heap.size, 0, none⟩ 1 1 [.int .i64 rs[i].number, .string (R.str rs[i].path), .slice m1 rs[i].ms.length m2, .slice t1 rs[i].tg.length t2, .bool rs[i].change, .string (R.str rs[i].to), .slice x1 rs[i].sets.length x2, .slice e1 rs[i].drops.length e2] rfl rfl ?c1 ?c2 (by decide) ?c3 ?c4 ?c5 (w1.heap.size + 1) (by simp) ?_)
            case c1 => exact cells_new _ #[_, _, _, _, _, _, _, _] _ _ (by simp)
            case c2 => exact rule_one HRi.out
            case c3 => unfold maxLen; omega
            case c4 => omega
            case c5 => simp; omega
            intro g2 cap2 w2 hown2 hgrow2 _ _
            have HO2 : Hid _ := hown2
            have HQ2 : Hid _ := own_away (World.ownsRow.alloc HQ1.out _) hgrow2 (fun k hk c => by have h1 := (World.ownsRow.lt HOq.out k hk).2; have h2 := (World.ownsRow.lt HO1.out k c).1; omega)
            have z2 : w1.heap.size + 1 ≤ w2.heap.size := by have h := hgrow2.size; simpa using h
            have HG2 : Hid _ := hgrow2
            clear hown2 hgrow2
            have HW2 : Hid (∀ j u, (cs.flatten)[j]? = some u → w2.cell? ⟨go, j, none⟩ = some u) := by
              intro j u hu
              have hjl := (List.getElem?_eq_some_iff.1 hu).1
              rw [HOq.out.1] at hjl
              rw [World.ownsRow.cellAt HQ2.out j hjl]; exact hu
            go_wp2_with (at_builtin; refine wpList_append_own _ rfl _ _ 117 rfl (wq.heap.size) 126 i0 _ 8 144 Tryz.underlying117 hi hz0 hz1 hz2 rfl (by decide) _ _ _ rfl HO2.out ⟨go, k * 8, none⟩ (i - k) (oc - k) (cs.flatten.drop (k * 8)) rfl ?b1 ?b2 ?b3 ?b4 ?b5 ?b6 ?_)
            case b1 => rw [List.length_drop, HFl.out]; omega
            case b2 =>
              intro j u hu
              rw [List.getElem?_drop] at hu
              have := HW2.out (k * 8 + j) u hu
              unfold Addr.add
              split
              · rename_i h0; subst h0; exact this
              · exact this
            case b3 => exact fun u hu => HOne.out u (List.mem_of_mem_drop hu)
            case b4 => unfold maxLen; omega
            case b5 => omega
            case b6 => omega
            intro v3 w3 hown3 hgrow3 _
            have gA := World.grownBy_alloc w1 (.cells #[.int .i64 rs[i].number, .string (R.str rs[i].path), .slice m1 rs[i].ms.length m2, .slice t1 rs[i].tg.length t2, .bool rs[i].change, .string (R.str rs[i].to), .slice x1 rs[i].sets.length x2, .slice e1 rs[i].drops.length e2] 126) none
            have sA2 : Safe (w1.alloc (.cells #[.int .i64 rs[i].number, .string (R.str rs[i].path), .slice m1 rs[i].ms.length m2, .slice t1 rs[i].tg.length t2, .bool rs[i].change, .string (R.str rs[i].to), .slice x1 rs[i].sets.length x2, .slice e1 rs[i].drops.length e2] 126)) (Value.slice n1a k n1c).ownBlock leaves := safe_row (World.ownsRow.alloc HO1.out _) (by decide)
            have sA3 : Safe w2 (Value.slice (some ⟨g2, 0, none⟩) (k + 1) cap2).ownBlock leaves := safe_row HO2.out (by decide)
            have kp : ∀ a b, RuleVal wq a b → RuleVal w3 a b := fun a b hab => (((hab.keep HG1.out (safe_none _ _)).keep gA (safe_none _ _)).keep HG2.out sA2).keep hgrow3 sA3
            have HA3 : Hid (All2 (RuleVal w3) (cs.take k ++ ([[.int .i64 rs[i].number, .string (R.str rs[i].path), .slice m1 rs[i].ms.length m2, .slice t1 rs[i].tg.length t2, .bool rs[i].change, .string (R.str rs[i].to), .slice x1 rs[i].sets.length x2, .slice e1 rs[i].drops.length e2]] : List (List Value)) ++ cs.drop k) (R.sorted (rs.take (i + 1)))) := by
              rw [HS.out]; unfold R.ins; rw [HIk.out]
              exact ((HAq.out.take k).append (.cons HRq.out .nil) |>.append (HAq.out.drop k)).map kp
            have HO3 : Hid (w3.ownsRow w.heap.size 126 8 v3 (i + 1) (cs.take k ++ ([[.int .i64 rs[i].number, .string (R.str rs[i].path), .slice m1 rs[i].ms.length m2, .slice t1 rs[i].tg.length t2, .bool rs[i].change, .string (R.str rs[i].to), .slice x1 rs[i].sets.length x2, .slice e1 rs[i].drops.length e2]] : List (List Value)) ++ cs.drop k).flatten) := by
              rw [List.flatten_append, List.flatten_append, flat_take HAq.out, flat_drop HAq.out, show i + 1 = k + 1 + (i - k) by omega, show ([[.int .i64 rs[i].number, .string (R.str rs[i].path), .slice m1 rs[i].ms.length m2, .slice t1 rs[i].tg.length t2, .bool rs[i].change, .string (R.str rs[i].to), .slice x1 rs[i].sets.length x2, .slice e1 rs[i].drops.length e2]] : List (List Value)).flatten = [.int .i64 rs[i].number, .string (R.str rs[i].path), .slice m1 rs[i].ms.length m2, .slice t1 rs[i].tg.length t2, .bool rs[i].change, .string (R.str rs[i].to), .slice x1 rs[i].sets.length x2, .slice e1 rs[i].drops.length e2] from rfl, List.append_assoc]
              exact row_base hown3 zq
            have HB3 : Hid (Below w.heap.size w w3) := by
              refine HBq.out.trans ?_
              have b1 := (below_of_grown HG1.out).mono (show w.heap.size ≤ wq.heap.size by omega)
              have b2 := (b1.alloc (by omega) (.cells #[.int .i64 rs[i].number, .string (R.str rs[i].path), .slice m1 rs[i].ms.length m2, .slice t1 rs[i].tg.length t2, .bool rs[i].change, .string (R.str rs[i].to), .slice x1 rs[i].sets.length x2, .slice e1 rs[i].drops.length e2] 126)).grown HG2.out (by simp; omega) (fun k hk => by have := (World.ownsRow.lt HO1.out k hk).1; omega)
              exact b2.grown hgrow3 (by omega) (fun k hk => by have := (World.ownsRow.lt HO2.out k hk).1; omega)
            clear hown3 hgrow3 kp sA2 sA3 gA
            obtain ⟨n3a, n3c, rfl⟩ := len_row HO3.out
            go_wp2
            go_roundw
            case rel => exact ⟨i + 1, _, by omega, by go_num, HO3, HA3, HB3⟩
            case measure => simp [intOf]; omega
        · have HIk : Hid (R.insK rs[i] out = k) := takeWhile_at _ _ _ (by omega) (fun j hj => decide_eq_true (HK.out j hj (by omega))) (fun h => by omega)
          obtain rfl : k = i := by omega
          clear hk hki
          have hO2 := HOz.out.2
          rcases hO2 with ⟨hnil, hi0⟩ | ⟨go, goc, cur, hsl, _, _, _⟩
          · simp only [Value.slice.injEq] at hnil
            obtain ⟨rfl, rfl, rfl⟩ := hnil
            clear hi0
            go_wp2_with fail
            go_quiet (fail)
            have HGq : Hid _ := grown_drewN wr nq
            have HAq : Hid (All2 (RuleVal (wr.drewN nq)) cs out) := HAz.out.map fun a b hab => hab.keep HGq.out (safe_none _ _)
            have HBq : Hid (Below w.heap.size w (wr.drewN nq)) := HBz.out.trans ((below_of_grown HGq.out).mono (by omega))
            generalize wr.drewN nq = wq at *
            obtain ⟨vM, vT, vS, vD, hcsi, hM, hT, hS2, hD⟩ := All2.get HAll.out 0 (by rw [HAll.out.len]; exact hlt) hlt
            obtain ⟨m1, m2, rfl⟩ := len_row hM
            obtain ⟨t1, t2, rfl⟩ := len_row hT
            obtain ⟨x1, x2, rfl⟩ := len_row hS2
            obtain ⟨e1, e2, rfl⟩ := len_row hD
            have HRi : Hid (RuleVal w [.int .i64 rs[0].number, .string (R.str rs[0].path), .slice m1 rs[0].ms.length m2, .slice t1 rs[0].tg.length t2, .bool rs[0].change, .string (R.str rs[0].to), .slice x1 rs[0].sets.length x2, .slice e1 rs[0].drops.length e2] rs[0]) := ⟨_, _, _, _, rfl, hM, hT, hS2, hD⟩
            clear hM hT hS2 hD
            have hgw : w.grownBy wq none := grown_below_none HBq.out
            have zq : w.heap.size ≤ wq.heap.size := HBq.out.size
            have hglq : gl < wq.heap.size := by have := hgw.size; omega
            have H0 : Hid (wq.cell? ⟨gl, 0 * 8, none⟩ = some (.int .i64 rs[0].number)) := by
              refine hgw.cell (a := ⟨gl, 0 * 8, none⟩) ?_ (by simp)
              rw [World.ownsRow.cellAt HRow.out (0 * 8) (by omega), show css.flatten[0 * 8]? = css.flatten[0 * 8 + 0]? from rfl, rules_cell HAll.out 0 0 hlt (by omega), hcsi]; rfl
            have H1 : Hid (wq.cell? ⟨gl, 0 * 8 + 1, none⟩ = some (.string (R.str rs[0].path))) := by
              refine hgw.cell (a := ⟨gl, 0 * 8 + 1, none⟩) ?_ (by simp)
              rw [World.ownsRow.cellAt HRow.out (0 * 8 + 1) (by omega), rules_cell HAll.out 0 1 hlt (by omega), hcsi]; rfl
            have H2 : Hid (wq.cell? ⟨gl, 0 * 8 + 2, none⟩ = some (.slice m1 rs[0].ms.length m2)) := by
              refine hgw.cell (a := ⟨gl, 0 * 8 + 2, none⟩) ?_ (by simp)
              rw [World.ownsRow.cellAt HRow.out (0 * 8 + 2) (by omega), rules_cell HAll.out 0 2 hlt (by omega), hcsi]; rfl
            have H3 : Hid (wq.cell? ⟨gl, 0 * 8 + 3, none⟩ = some (.slice t1 rs[0].tg.length t2)) := by
              refine hgw.cell (a := ⟨gl, 0 * 8 + 3, none⟩) ?_ (by simp)
              rw [World.ownsRow.cellAt HRow.out (0 * 8 + 3) (by omega), rules_cell HAll.out 0 3 hlt (by omega), hcsi]; rfl
            have H4 : Hid (wq.cell? ⟨gl, 0 * 8 + 4, none⟩ = some (.bool rs[0].change)) := by
              refine hgw.cell (a := ⟨gl, 0 * 8 + 4, none⟩) ?_ (by simp)
              rw [World.ownsRow.cellAt HRow.out (0 * 8 + 4) (by omega), rules_cell HAll.out 0 4 hlt (by omega), hcsi]; rfl
            have H5 : Hid (wq.cell? ⟨gl, 0 * 8 + 5, none⟩ = some (.string (R.str rs[0].to))) := by
              refine hgw.cell (a := ⟨gl, 0 * 8 + 5, none⟩) ?_ (by simp)
              rw [World.ownsRow.cellAt HRow.out (0 * 8 + 5) (by omega), rules_cell HAll.out 0 5 hlt (by omega), hcsi]; rfl
            have H6 : Hid (wq.cell? ⟨gl, 0 * 8 + 6, none⟩ = some (.slice x1 rs[0].sets.length x2)) := by
              refine hgw.cell (a := ⟨gl, 0 * 8 + 6, none⟩) ?_ (by simp)
              rw [World.ownsRow.cellAt HRow.out (0 * 8 + 6) (by omega), rules_cell HAll.out 0 6 hlt (by omega), hcsi]; rfl
            have H7 : Hid (wq.cell? ⟨gl, 0 * 8 + 7, none⟩ = some (.slice e1 rs[0].drops.length e2)) := by
              refine hgw.cell (a := ⟨gl, 0 * 8 + 7, none⟩) ?_ (by simp)
              rw [World.ownsRow.cellAt HRow.out (0 * 8 + 7) (by omega), rules_cell HAll.out 0 7 hlt (by omega), hcsi]; rfl
            clear hcsi hgw
            have HRq : Hid (RuleVal wq [.int .i64 rs[0].number, .string (R.str rs[0].path), .slice m1 rs[0].ms.length m2, .slice t1 rs[0].tg.length t2, .bool rs[0].change, .string (R.str rs[0].to), .slice x1 rs[0].sets.length x2, .slice e1 rs[0].drops.length e2] rs[0]) := HRi.out.keep (grown_below_none HBq.out) (safe_none _ _)
            have d0 := H0.out
            have d1 := H1.out
            have d2 := H2.out
            have d3 := H3.out
            have d4 := H4.out
            have d5 := H5.out
            have d6 := H6.out
            have d7 := H7.out
            go_wp2_with (first
              | (at_builtin; refine wpList_append_own_none rfl _ _ 117 rfl (wq.heap.size) 126 i0 8 Tryz.underlying117 hi _ _ _ rfl (World.ownsRow_nil _ _ _ _) rfl ?_)
              | (at_builtin; refine wpList_append_lies _ rfl _ _ 117 rfl (wq.heap.size) 126 i0 _ 8 144 Tryz.underlying117 hi hz0 hz1 hz2 rfl (by decide) _ _ _ rfl (World.ownsRow_nil _ _ _ _) ⟨wq.heap.size, 0, none⟩ 1 1 [.int .i64 rs[0].number, .string (R.str rs[0].path), .slice m1 rs[0].ms.length m2, .slice t1 rs[0].tg.length t2, .bool rs[0].change, .string (R.str rs[0].to), .slice x1 rs[0].sets.length x2, .slice e1 rs[0].drops.length e2] rfl rfl ?c1 ?c2 (by decide) ?c3 ?c4 ?c5 (wq.heap.size + 1) (by simp) ?_))
            case c1 => exact cells_new _ #[_, _, _, _, _, _, _, _] _ _ (by simp)
            case c2 => exact rule_one HRi.out
            case c3 => unfold maxLen; omega
            case c4 => omega
            case c5 => simp
            intro g2 cap2 w2 hown2 hgrow2 _ _
            have HO2 : Hid (w2.ownsRow wq.heap.size 126 8 (.slice (some ⟨g2, 0, none⟩) 1 cap2) 1 [.int .i64 rs[0].number, .string (R.str rs[0].path), .slice m1 rs[0].ms.length m2, .slice t1 rs[0].tg.length t2, .bool rs[0].change, .string (R.str rs[0].to), .slice x1 rs[0].sets.length x2, .slice e1 rs[0].drops.length e2]) := hown2
            have gA := World.grownBy_alloc wq (.cells #[.int .i64 rs[0].number, .string (R.str rs[0].path), .slice m1 rs[0].ms.length m2, .slice t1 rs[0].tg.length t2, .bool rs[0].change, .string (R.str rs[0].to), .slice x1 rs[0].sets.length x2, .slice e1 rs[0].drops.length e2] 126) none
            have HA3 : Hid (All2 (RuleVal w2) ([[.int .i64 rs[0].number, .string (R.str rs[0].path), .slice m1 rs[0].ms.length m2, .slice t1 rs[0].tg.length t2, .bool rs[0].change, .string (R.str rs[0].to), .slice x1 rs[0].sets.length x2, .slice e1 rs[0].drops.length e2]] : List (List Value)) (R.sorted (rs.take (0 + 1)))) := by
              rw [HS.out]; unfold R.ins
              rw [List.length_eq_zero_iff.1 hso]
              exact .cons ((HRq.out.keep gA (safe_none _ _)).keep hgrow2 (safe_none _ _)) .nil
            have HO3 : Hid (w2.ownsRow w.heap.size 126 8 (.slice (some ⟨g2, 0, none⟩) 1 cap2) (0 + 1) ([[.int .i64 rs[0].number, .string (R.str rs[0].path), .slice m1 rs[0].ms.length m2, .slice t1 rs[0].tg.length t2, .bool rs[0].change, .string (R.str rs[0].to), .slice x1 rs[0].sets.length x2, .slice e1 rs[0].drops.length e2]] : List (List Value)).flatten) := row_base hown2 zq
            have HB3 : Hid (Below w.heap.size w w2) := HBq.out.trans (((Below.refl _ _).alloc zq _).grown hgrow2 (by simp; omega) (fun k hk => by cases hk))
            clear hown2 hgrow2 gA
            go_wp2_with (at_builtin; refine wpList_append_own_none rfl _ _ 117 rfl (wq.heap.size) 126 i0 8 Tryz.underlying117 hi _ _ _ rfl HO2.out rfl ?_)
            go_roundw
            case rel => exact ⟨0 + 1, _, by omega, by go_num, HO3, HA3, HB3⟩
            case measure => simp [intOf]; omega
          · simp only [Value.slice.injEq] at hsl
            obtain ⟨rfl, _, rfl⟩ := hsl
            go_wp2_with fail
            go_quiet (fail)
            have HGq : Hid _ := grown_drewN wr nq
            have HOq : Hid _ := own_away HOz.out HGq.out (fun k hk c => by cases c)
            have HAq : Hid (All2 (RuleVal (wr.drewN nq)) cs out) := HAz.out.map fun a b hab => hab.keep HGq.out (safe_none _ _)
            have HBq : Hid (Below w.heap.size w (wr.drewN nq)) := HBz.out.trans ((below_of_grown HGq.out).mono (by omega))
            generalize wr.drewN nq = wq at *
            by_cases hkc : k < oc
            · obtain ⟨vM, vT, vS, vD, hcsi, hM, hT, hS2, hD⟩ := All2.get HAll.out k (by rw [HAll.out.len]; exact hlt) hlt
              obtain ⟨m1, m2, rfl⟩ := len_row hM
              obtain ⟨t1, t2, rfl⟩ := len_row hT
              obtain ⟨x1, x2, rfl⟩ := len_row hS2
              obtain ⟨e1, e2, rfl⟩ := len_row hD
              have HRi : Hid (RuleVal w [.int .i64 rs[k].number, .string (R.str rs[k].path), .slice m1 rs[k].ms.length m2, .slice t1 rs[k].tg.length t2, .bool rs[k].change, .string (R.str rs[k].to), .slice x1 rs[k].sets.length x2, .slice e1 rs[k].drops.length e2] rs[k]) := ⟨_, _, _, _, rfl, hM, hT, hS2, hD⟩
              clear hM hT hS2 hD
              have hgw : w.grownBy wq none := grown_below_none HBq.out
              have zq : w.heap.size ≤ wq.heap.size := HBq.out.size
              have hglq : gl < wq.heap.size := by have := hgw.size; omega
              have H0 : Hid (wq.cell? ⟨gl, k * 8, none⟩ = some (.int .i64 rs[k].number)) := by
                refine hgw.cell (a := ⟨gl, k * 8, none⟩) ?_ (by simp)
                rw [World.ownsRow.cellAt HRow.out (k * 8) (by omega), show css.flatten[k * 8]? = css.flatten[k * 8 + 0]? from rfl, rules_cell HAll.out k 0 hlt (by omega), hcsi]; rfl
              have H1 : Hid (wq.cell? ⟨gl, k * 8 + 1, none⟩ = some (.string (R.str rs[k].path))) := by
                refine hgw.cell (a := ⟨gl, k * 8 + 1, none⟩) ?_ (by simp)
                rw [World.ownsRow.cellAt HRow.out (k * 8 + 1) (by omega), rules_cell HAll.out k 1 hlt (by omega), hcsi]; rfl
              have H2 : Hid (wq.cell? ⟨gl, k * 8 + 2, none⟩ = some (.slice m1 rs[k].ms.length m2)) := by
                refine hgw.cell (a := ⟨gl, k * 8 + 2, none⟩) ?_ (by simp)
                rw [World.ownsRow.cellAt HRow.out (k * 8 + 2) (by omega), rules_cell HAll.out k 2 hlt (by omega), hcsi]; rfl
              have H3 : Hid (wq.cell? ⟨gl, k * 8 + 3, none⟩ = some (.slice t1 rs[k].tg.length t2)) := by
                refine hgw.cell (a := ⟨gl, k * 8 + 3, none⟩) ?_ (by simp)
                rw [World.ownsRow.cellAt HRow.out (k * 8 + 3) (by omega), rules_cell HAll.out k 3 hlt (by omega), hcsi]; rfl
              have H4 : Hid (wq.cell? ⟨gl, k * 8 + 4, none⟩ = some (.bool rs[k].change)) := by
                refine hgw.cell (a := ⟨gl, k * 8 + 4, none⟩) ?_ (by simp)
                rw [World.ownsRow.cellAt HRow.out (k * 8 + 4) (by omega), rules_cell HAll.out k 4 hlt (by omega), hcsi]; rfl
              have H5 : Hid (wq.cell? ⟨gl, k * 8 + 5, none⟩ = some (.string (R.str rs[k].to))) := by
                refine hgw.cell (a := ⟨gl, k * 8 + 5, none⟩) ?_ (by simp)
                rw [World.ownsRow.cellAt HRow.out (k * 8 + 5) (by omega), rules_cell HAll.out k 5 hlt (by omega), hcsi]; rfl
              have H6 : Hid (wq.cell? ⟨gl, k * 8 + 6, none⟩ = some (.slice x1 rs[k].sets.length x2)) := by
                refine hgw.cell (a := ⟨gl, k * 8 + 6, none⟩) ?_ (by simp)
                rw [World.ownsRow.cellAt HRow.out (k * 8 + 6) (by omega), rules_cell HAll.out k 6 hlt (by omega), hcsi]; rfl
              have H7 : Hid (wq.cell? ⟨gl, k * 8 + 7, none⟩ = some (.slice e1 rs[k].drops.length e2)) := by
                refine hgw.cell (a := ⟨gl, k * 8 + 7, none⟩) ?_ (by simp)
                rw [World.ownsRow.cellAt HRow.out (k * 8 + 7) (by omega), rules_cell HAll.out k 7 hlt (by omega), hcsi]; rfl
              clear hcsi hgw
              have HRq : Hid (RuleVal wq [.int .i64 rs[k].number, .string (R.str rs[k].path), .slice m1 rs[k].ms.length m2, .slice t1 rs[k].tg.length t2, .bool rs[k].change, .string (R.str rs[k].to), .slice x1 rs[k].sets.length x2, .slice e1 rs[k].drops.length e2] rs[k]) := HRi.out.keep (grown_below_none HBq.out) (safe_none _ _)
              have HW : Hid (∀ j u, (cs.flatten)[j]? = some u → wq.cell? ⟨go, j, none⟩ = some u) := by
                intro j u hu
                have hjl := (List.getElem?_eq_some_iff.1 hu).1
                rw [HOq.out.1] at hjl
                rw [World.ownsRow.cellAt HOq.out j hjl]; exact hu
              have hcap := own_cap HOq.out
              unfold maxLen at hcap
              obtain ⟨hcap1, hcap2⟩ := hcap
              have HFl : Hid (cs.flatten.length = k * 8) := HOq.out.1
              have HOne : Hid (∀ u ∈ cs.flatten, u.oneCell' = true) := rules_one HAq.out
              go_wp2_with (at_builtin; refine wpList_append_own _ rfl _ _ 117 rfl (wq.heap.size) 126 i0 _ 8 144 Tryz.underlying117 hi hz0 hz1 hz2 rfl (by decide) _ _ _ rfl (World.ownsRow_nil _ _ _ _) ⟨go, 0, none⟩ k oc (cs.flatten.take (k * 8)) rfl ?a1 ?a2 ?a3 ?a4 ?a5 ?a6 ?_)
              case a1 => rw [List.length_take, HFl.out]; omega
              case a2 =>
                intro j u hu
                rw [add_off]
                rw [List.getElem?_take] at hu
                split at hu
                · exact HW.out j u hu
                · cases hu
              case a3 => exact fun u hu => HOne.out u (List.mem_of_mem_take hu)
              case a4 => unfold maxLen; omega
              case a5 => omega
              case a6 => exact Nat.le_refl _
              intro v1 w1 hown1 hgrow1 _
              obtain ⟨n1a, n1c, rfl⟩ := len_row hown1
              have g1 : wq.grownBy w1 none := hgrow1
              have HO1 : Hid _ := hown1
              have HQ1 : Hid _ := own_away HOq.out hgrow1 (fun k hk c => by cases c)
              have z1 : wq.heap.size ≤ w1.heap.size := hgrow1.size
              have d0 := g1.cell H0.out (by simp)
              have d1 := g1.cell H1.out (by simp)
              have d2 := g1.cell H2.out (by simp)
              have d3 := g1.cell H3.out (by simp)
              have d4 := g1.cell H4.out (by simp)
              have d5 := g1.cell H5.out (by simp)
              have d6 := g1.cell H6.out (by simp)
              have d7 := g1.cell H7.out (by simp)
              have HG1 : Hid _ := g1
              clear hown1 hgrow1 g1
              go_wp2_with (at_builtin; refine wpList_append_lies _ rfl _ _ 117 rfl (wq.heap.size) 126 i0 _ 8 144 Tryz.underlying117 hi hz0 hz1 hz2 rfl (by decide) _ _ _ rfl (World.ownsRow.alloc HO1.out _) ⟨w1.heap.size, 0, none⟩ 1 1 [.int .i64 rs[k].number, .string (R.str rs[k].path), .slice m1 rs[k].ms.length m2, .slice t1 rs[k].tg.length t2, .bool rs[k].change, .string (R.str rs[k].to), .slice x1 rs[k].sets.length x2, .slice e1 rs[k].drops.length e2] rfl rfl ?c1 ?c2 (by decide) ?c3 ?c4 ?c5 (w1.heap.size + 1) (by simp) ?_)
              case c1 => exact cells_new _ #[_, _, _, _, _, _, _, _] _ _ (by simp)
              case c2 => exact rule_one HRi.out
              case c3 => unfold maxLen; omega
              case c4 => omega
              case c5 => simp; omega
              intro g2 cap2 w2 hown2 hgrow2 _ _
              have HO2 : Hid _ := hown2
              have HQ2 : Hid _ := own_away (World.ownsRow.alloc HQ1.out _) hgrow2 (fun k hk c => by have h1 := (World.ownsRow.lt HOq.out k hk).2; have h2 := (World.ownsRow.lt HO1.out k c).1; omega)
              have z2 : w1.heap.size + 1 ≤ w2.heap.size := by have h := hgrow2.size; simpa using h
              have HG2 : Hid _ := hgrow2
              clear hown2 hgrow2
              have HW2 : Hid (∀ j u, (cs.flatten)[j]? = some u → w2.cell? ⟨go, j, none⟩ = some u) := by
                intro j u hu
                have hjl := (List.getElem?_eq_some_iff.1 hu).1
                rw [HOq.out.1] at hjl
                rw [World.ownsRow.cellAt HQ2.out j hjl]; exact hu
              go_wp2_with (at_builtin; refine wpList_append_own _ rfl _ _ 117 rfl (wq.heap.size) 126 i0 _ 8 144 Tryz.underlying117 hi hz0 hz1 hz2 rfl (by decide) _ _ _ rfl HO2.out ⟨go, k * 8, none⟩ 0 (oc - k) [] rfl ?b1 ?b2 ?b3 ?b4 ?b5 ?b6 ?_)
              case b1 => rfl
              case b2 => intro j u hu; simp at hu
              case b3 => exact fun u hu => by simp at hu
              case b4 => unfold maxLen; omega
              case b5 => omega
              case b6 => omega
              intro v3 w3 hown3 hgrow3 _
              have gA := World.grownBy_alloc w1 (.cells #[.int .i64 rs[k].number, .string (R.str rs[k].path), .slice m1 rs[k].ms.length m2, .slice t1 rs[k].tg.length t2, .bool rs[k].change, .string (R.str rs[k].to), .slice x1 rs[k].sets.length x2, .slice e1 rs[k].drops.length e2] 126) none
              have sA2 : Safe (w1.alloc (.cells #[.int .i64 rs[k].number, .string (R.str rs[k].path), .slice m1 rs[k].ms.length m2, .slice t1 rs[k].tg.length t2, .bool rs[k].change, .string (R.str rs[k].to), .slice x1 rs[k].sets.length x2, .slice e1 rs[k].drops.length e2] 126)) (Value.slice n1a k n1c).ownBlock leaves := safe_row (World.ownsRow.alloc HO1.out _) (by decide)
              have sA3 : Safe w2 (Value.slice (some ⟨g2, 0, none⟩) (k + 1) cap2).ownBlock leaves := safe_row HO2.out (by decide)
              have kp : ∀ a b, RuleVal wq a b → RuleVal w3 a b := fun a b hab => (((hab.keep HG1.out (safe_none _ _)).keep gA (safe_none _ _)).keep HG2.out sA2).keep hgrow3 sA3
              have HA3 : Hid (All2 (RuleVal w3) (cs.take k ++ ([[.int .i64 rs[k].number, .string (R.str rs[k].path), .slice m1 rs[k].ms.length m2, .slice t1 rs[k].tg.length t2, .bool rs[k].change, .string (R.str rs[k].to), .slice x1 rs[k].sets.length x2, .slice e1 rs[k].drops.length e2]] : List (List Value)) ++ cs.drop k) (R.sorted (rs.take (k + 1)))) := by
                rw [HS.out]; unfold R.ins; rw [HIk.out]
                exact ((HAq.out.take k).append (.cons HRq.out .nil) |>.append (HAq.out.drop k)).map kp
              have HO3 : Hid (w3.ownsRow w.heap.size 126 8 v3 (k + 1) (cs.take k ++ ([[.int .i64 rs[k].number, .string (R.str rs[k].path), .slice m1 rs[k].ms.length m2, .slice t1 rs[k].tg.length t2, .bool rs[k].change, .string (R.str rs[k].to), .slice x1 rs[k].sets.length x2, .slice e1 rs[k].drops.length e2]] : List (List Value)) ++ cs.drop k).flatten) := by
                rw [List.flatten_append, List.flatten_append, flat_take HAq.out, flat_drop HAq.out, show k + 1 = k + 1 + 0 by omega, show ([[.int .i64 rs[k].number, .string (R.str rs[k].path), .slice m1 rs[k].ms.length m2, .slice t1 rs[k].tg.length t2, .bool rs[k].change, .string (R.str rs[k].to), .slice x1 rs[k].sets.length x2, .slice e1 rs[k].drops.length e2]] : List (List Value)).flatten = [.int .i64 rs[k].number, .string (R.str rs[k].path), .slice m1 rs[k].ms.length m2, .slice t1 rs[k].tg.length t2, .bool rs[k].change, .string (R.str rs[k].to), .slice x1 rs[k].sets.length x2, .slice e1 rs[k].drops.length e2] from rfl, List.drop_of_length_le (l := cs.flatten) (by rw [HFl.out]; omega), List.append_assoc]
                exact row_base hown3 zq
              have HB3 : Hid (Below w.heap.size w w3) := by
                refine HBq.out.trans ?_
                have b1 := (below_of_grown HG1.out).mono (show w.heap.size ≤ wq.heap.size by omega)
                have b2 := (b1.alloc (by omega) (.cells #[.int .i64 rs[k].number, .string (R.str rs[k].path), .slice m1 rs[k].ms.length m2, .slice t1 rs[k].tg.length t2, .bool rs[k].change, .string (R.str rs[k].to), .slice x1 rs[k].sets.length x2, .slice e1 rs[k].drops.length e2] 126)).grown HG2.out (by simp; omega) (fun k hk => by have := (World.ownsRow.lt HO1.out k hk).1; omega)
                exact b2.grown hgrow3 (by omega) (fun k hk => by have := (World.ownsRow.lt HO2.out k hk).1; omega)
              clear hown3 hgrow3 kp sA2 sA3 gA
              obtain ⟨n3a, n3c, rfl⟩ := len_row HO3.out
              go_wp2
              go_roundw
              case rel => exact ⟨k + 1, _, by omega, by go_num, HO3, HA3, HB3⟩
              case measure => simp [intOf]; omega
            · obtain rfl : oc = k := by have h := (own_cap HOq.out).1; omega
              obtain ⟨vM, vT, vS, vD, hcsi, hM, hT, hS2, hD⟩ := All2.get HAll.out oc (by rw [HAll.out.len]; exact hlt) hlt
              obtain ⟨m1, m2, rfl⟩ := len_row hM
              obtain ⟨t1, t2, rfl⟩ := len_row hT
              obtain ⟨x1, x2, rfl⟩ := len_row hS2
              obtain ⟨e1, e2, rfl⟩ := len_row hD
              have HRi : Hid (RuleVal w [.int .i64 rs[oc].number, .string (R.str rs[oc].path), .slice m1 rs[oc].ms.length m2, .slice t1 rs[oc].tg.length t2, .bool rs[oc].change, .string (R.str rs[oc].to), .slice x1 rs[oc].sets.length x2, .slice e1 rs[oc].drops.length e2] rs[oc]) := ⟨_, _, _, _, rfl, hM, hT, hS2, hD⟩
              clear hM hT hS2 hD
              have hgw : w.grownBy wq none := grown_below_none HBq.out
              have zq : w.heap.size ≤ wq.heap.size := HBq.out.size
              have hglq : gl < wq.heap.size := by have := hgw.size; omega
              have H0 : Hid (wq.cell? ⟨gl, oc * 8, none⟩ = some (.int .i64 rs[oc].number)) := by
                refine hgw.cell (a := ⟨gl, oc * 8, none⟩) ?_ (by simp)
                rw [World.ownsRow.cellAt HRow.out (oc * 8) (by omega), show css.flatten[oc * 8]? = css.flatten[oc * 8 + 0]? from rfl, rules_cell HAll.out oc 0 hlt (by omega), hcsi]; rfl
              have H1 : Hid (wq.cell? ⟨gl, oc * 8 + 1, none⟩ = some (.string (R.str rs[oc].path))) := by
                refine hgw.cell (a := ⟨gl, oc * 8 + 1, none⟩) ?_ (by simp)
                rw [World.ownsRow.cellAt HRow.out (oc * 8 + 1) (by omega), rules_cell HAll.out oc 1 hlt (by omega), hcsi]; rfl
              have H2 : Hid (wq.cell? ⟨gl, oc * 8 + 2, none⟩ = some (.slice m1 rs[oc].ms.length m2)) := by
                refine hgw.cell (a := ⟨gl, oc * 8 + 2, none⟩) ?_ (by simp)
                rw [World.ownsRow.cellAt HRow.out (oc * 8 + 2) (by omega), rules_cell HAll.out oc 2 hlt (by omega), hcsi]; rfl
              have H3 : Hid (wq.cell? ⟨gl, oc * 8 + 3, none⟩ = some (.slice t1 rs[oc].tg.length t2)) := by
                refine hgw.cell (a := ⟨gl, oc * 8 + 3, none⟩) ?_ (by simp)
                rw [World.ownsRow.cellAt HRow.out (oc * 8 + 3) (by omega), rules_cell HAll.out oc 3 hlt (by omega), hcsi]; rfl
              have H4 : Hid (wq.cell? ⟨gl, oc * 8 + 4, none⟩ = some (.bool rs[oc].change)) := by
                refine hgw.cell (a := ⟨gl, oc * 8 + 4, none⟩) ?_ (by simp)
                rw [World.ownsRow.cellAt HRow.out (oc * 8 + 4) (by omega), rules_cell HAll.out oc 4 hlt (by omega), hcsi]; rfl
              have H5 : Hid (wq.cell? ⟨gl, oc * 8 + 5, none⟩ = some (.string (R.str rs[oc].to))) := by
                refine hgw.cell (a := ⟨gl, oc * 8 + 5, none⟩) ?_ (by simp)
                rw [World.ownsRow.cellAt HRow.out (oc * 8 + 5) (by omega), rules_cell HAll.out oc 5 hlt (by omega), hcsi]; rfl
              have H6 : Hid (wq.cell? ⟨gl, oc * 8 + 6, none⟩ = some (.slice x1 rs[oc].sets.length x2)) := by
                refine hgw.cell (a := ⟨gl, oc * 8 + 6, none⟩) ?_ (by simp)
                rw [World.ownsRow.cellAt HRow.out (oc * 8 + 6) (by omega), rules_cell HAll.out oc 6 hlt (by omega), hcsi]; rfl
              have H7 : Hid (wq.cell? ⟨gl, oc * 8 + 7, none⟩ = some (.slice e1 rs[oc].drops.length e2)) := by
                refine hgw.cell (a := ⟨gl, oc * 8 + 7, none⟩) ?_ (by simp)
                rw [World.ownsRow.cellAt HRow.out (oc * 8 + 7) (by omega), rules_cell HAll.out oc 7 hlt (by omega), hcsi]; rfl
              clear hcsi hgw
              have HRq : Hid (RuleVal wq [.int .i64 rs[oc].number, .string (R.str rs[oc].path), .slice m1 rs[oc].ms.length m2, .slice t1 rs[oc].tg.length t2, .bool rs[oc].change, .string (R.str rs[oc].to), .slice x1 rs[oc].sets.length x2, .slice e1 rs[oc].drops.length e2] rs[oc]) := HRi.out.keep (grown_below_none HBq.out) (safe_none _ _)
              have HW : Hid (∀ j u, (cs.flatten)[j]? = some u → wq.cell? ⟨go, j, none⟩ = some u) := by
                intro j u hu
                have hjl := (List.getElem?_eq_some_iff.1 hu).1
                rw [HOq.out.1] at hjl
                rw [World.ownsRow.cellAt HOq.out j hjl]; exact hu
              have hcap := own_cap HOq.out
              unfold maxLen at hcap
              obtain ⟨hcap1, hcap2⟩ := hcap
              have HFl : Hid (cs.flatten.length = oc * 8) := HOq.out.1
              have HOne : Hid (∀ u ∈ cs.flatten, u.oneCell' = true) := rules_one HAq.out
              go_wp2_with (at_builtin; refine wpList_append_own _ rfl _ _ 117 rfl (wq.heap.size) 126 i0 _ 8 144 Tryz.underlying117 hi hz0 hz1 hz2 rfl (by decide) _ _ _ rfl (World.ownsRow_nil _ _ _ _) ⟨go, 0, none⟩ oc oc (cs.flatten.take (oc * 8)) rfl ?a1 ?a2 ?a3 ?a4 ?a5 ?a6 ?_)
              case a1 => rw [List.length_take, HFl.out]; omega
              case a2 =>
                intro j u hu
                rw [add_off]
                rw [List.getElem?_take] at hu
                split at hu
                · exact HW.out j u hu
                · cases hu
              case a3 => exact fun u hu => HOne.out u (List.mem_of_mem_take hu)
              case a4 => unfold maxLen; omega
              case a5 => omega
              case a6 => exact Nat.le_refl _
              intro v1 w1 hown1 hgrow1 _
              obtain ⟨n1a, n1c, rfl⟩ := len_row hown1
              have g1 : wq.grownBy w1 none := hgrow1
              have HO1 : Hid _ := hown1
              have HQ1 : Hid _ := own_away HOq.out hgrow1 (fun oc hk c => by cases c)
              have z1 : wq.heap.size ≤ w1.heap.size := hgrow1.size
              have d0 := g1.cell H0.out (by simp)
              have d1 := g1.cell H1.out (by simp)
              have d2 := g1.cell H2.out (by simp)
              have d3 := g1.cell H3.out (by simp)
              have d4 := g1.cell H4.out (by simp)
              have d5 := g1.cell H5.out (by simp)
              have d6 := g1.cell H6.out (by simp)
              have d7 := g1.cell H7.out (by simp)
              have HG1 : Hid _ := g1
              clear hown1 hgrow1 g1
              go_wp2_with (at_builtin; refine wpList_append_lies _ rfl _ _ 117 rfl (wq.heap.size) 126 i0 _ 8 144 Tryz.underlying117 hi hz0 hz1 hz2 rfl (by decide) _ _ _ rfl (World.ownsRow.alloc HO1.out _) ⟨w1.heap.size, 0, none⟩ 1 1 [.int .i64 rs[oc].number, .string (R.str rs[oc].path), .slice m1 rs[oc].ms.length m2, .slice t1 rs[oc].tg.length t2, .bool rs[oc].change, .string (R.str rs[oc].to), .slice x1 rs[oc].sets.length x2, .slice e1 rs[oc].drops.length e2] rfl rfl ?c1 ?c2 (by decide) ?c3 ?c4 ?c5 (w1.heap.size + 1) (by simp) ?_)
              case c1 => exact cells_new _ #[_, _, _, _, _, _, _, _] _ _ (by simp)
              case c2 => exact rule_one HRi.out
              case c3 => unfold maxLen; omega
              case c4 => omega
              case c5 => simp; omega
              intro g2 cap2 w2 hown2 hgrow2 _ _
              have HO2 : Hid _ := hown2
              have HQ2 : Hid _ := own_away (World.ownsRow.alloc HQ1.out _) hgrow2 (fun oc hk c => by have h1 := (World.ownsRow.lt HOq.out oc hk).2; have h2 := (World.ownsRow.lt HO1.out oc c).1; omega)
              have z2 : w1.heap.size + 1 ≤ w2.heap.size := by have h := hgrow2.size; simpa using h
              have HG2 : Hid _ := hgrow2
              clear hown2 hgrow2
              have HW2 : Hid (∀ j u, (cs.flatten)[j]? = some u → w2.cell? ⟨go, j, none⟩ = some u) := by
                intro j u hu
                have hjl := (List.getElem?_eq_some_iff.1 hu).1
                rw [HOq.out.1] at hjl
                rw [World.ownsRow.cellAt HQ2.out j hjl]; exact hu
              go_wp2_with (at_builtin; refine wpList_append_own _ rfl _ _ 117 rfl (wq.heap.size) 126 i0 _ 8 144 Tryz.underlying117 hi hz0 hz1 hz2 rfl (by decide) _ _ _ rfl HO2.out ⟨go, 0, none⟩ 0 0 [] rfl ?b1 ?b2 ?b3 ?b4 ?b5 ?b6 ?_)
              case b1 => rfl
              case b2 => intro j u hu; simp at hu
              case b3 => exact fun u hu => by simp at hu
              case b4 => unfold maxLen; omega
              case b5 => omega
              case b6 => omega
              intro v3 w3 hown3 hgrow3 _
              have gA := World.grownBy_alloc w1 (.cells #[.int .i64 rs[oc].number, .string (R.str rs[oc].path), .slice m1 rs[oc].ms.length m2, .slice t1 rs[oc].tg.length t2, .bool rs[oc].change, .string (R.str rs[oc].to), .slice x1 rs[oc].sets.length x2, .slice e1 rs[oc].drops.length e2] 126) none
              have sA2 : Safe (w1.alloc (.cells #[.int .i64 rs[oc].number, .string (R.str rs[oc].path), .slice m1 rs[oc].ms.length m2, .slice t1 rs[oc].tg.length t2, .bool rs[oc].change, .string (R.str rs[oc].to), .slice x1 rs[oc].sets.length x2, .slice e1 rs[oc].drops.length e2] 126)) (Value.slice n1a oc n1c).ownBlock leaves := safe_row (World.ownsRow.alloc HO1.out _) (by decide)
              have sA3 : Safe w2 (Value.slice (some ⟨g2, 0, none⟩) (oc + 1) cap2).ownBlock leaves := safe_row HO2.out (by decide)
              have kp : ∀ a b, RuleVal wq a b → RuleVal w3 a b := fun a b hab => (((hab.keep HG1.out (safe_none _ _)).keep gA (safe_none _ _)).keep HG2.out sA2).keep hgrow3 sA3
              have HA3 : Hid (All2 (RuleVal w3) (cs.take oc ++ ([[.int .i64 rs[oc].number, .string (R.str rs[oc].path), .slice m1 rs[oc].ms.length m2, .slice t1 rs[oc].tg.length t2, .bool rs[oc].change, .string (R.str rs[oc].to), .slice x1 rs[oc].sets.length x2, .slice e1 rs[oc].drops.length e2]] : List (List Value)) ++ cs.drop oc) (R.sorted (rs.take (oc + 1)))) := by
                rw [HS.out]; unfold R.ins; rw [HIk.out]
                exact ((HAq.out.take oc).append (.cons HRq.out .nil) |>.append (HAq.out.drop oc)).map kp
              have HO3 : Hid (w3.ownsRow w.heap.size 126 8 v3 (oc + 1) (cs.take oc ++ ([[.int .i64 rs[oc].number, .string (R.str rs[oc].path), .slice m1 rs[oc].ms.length m2, .slice t1 rs[oc].tg.length t2, .bool rs[oc].change, .string (R.str rs[oc].to), .slice x1 rs[oc].sets.length x2, .slice e1 rs[oc].drops.length e2]] : List (List Value)) ++ cs.drop oc).flatten) := by
                rw [List.flatten_append, List.flatten_append, flat_take HAq.out, flat_drop HAq.out, show oc + 1 = oc + 1 + 0 by omega, show ([[.int .i64 rs[oc].number, .string (R.str rs[oc].path), .slice m1 rs[oc].ms.length m2, .slice t1 rs[oc].tg.length t2, .bool rs[oc].change, .string (R.str rs[oc].to), .slice x1 rs[oc].sets.length x2, .slice e1 rs[oc].drops.length e2]] : List (List Value)).flatten = [.int .i64 rs[oc].number, .string (R.str rs[oc].path), .slice m1 rs[oc].ms.length m2, .slice t1 rs[oc].tg.length t2, .bool rs[oc].change, .string (R.str rs[oc].to), .slice x1 rs[oc].sets.length x2, .slice e1 rs[oc].drops.length e2] from rfl, List.drop_of_length_le (l := cs.flatten) (by rw [HFl.out]; omega), List.append_assoc]
                exact row_base hown3 zq
              have HB3 : Hid (Below w.heap.size w w3) := by
                refine HBq.out.trans ?_
                have b1 := (below_of_grown HG1.out).mono (show w.heap.size ≤ wq.heap.size by omega)
                have b2 := (b1.alloc (by omega) (.cells #[.int .i64 rs[oc].number, .string (R.str rs[oc].path), .slice m1 rs[oc].ms.length m2, .slice t1 rs[oc].tg.length t2, .bool rs[oc].change, .string (R.str rs[oc].to), .slice x1 rs[oc].sets.length x2, .slice e1 rs[oc].drops.length e2] 126)).grown HG2.out (by simp; omega) (fun oc hk => by have := (World.ownsRow.lt HO1.out oc hk).1; omega)
                exact b2.grown hgrow3 (by omega) (fun oc hk => by have := (World.ownsRow.lt HO2.out oc hk).1; omega)
              clear hown3 hgrow3 kp sA2 sA3 gA
              obtain ⟨n3a, n3c, rfl⟩ := len_row HO3.out
              go_wp2
              go_roundw
              case rel => exact ⟨oc + 1, _, by omega, by go_num, HO3, HA3, HB3⟩
              case measure => simp [intOf]; omega
    · go_wp2
      go_ret
      rw [show i = rs.length by omega, List.take_of_length_le (Nat.le_refl _)] at HA
      refine ⟨_, rfl, HB.out, cs, ?_, HA.out⟩
      rw [sorted_len, show rs.length = i by omega]
      exact row_base HO.out (Nat.zero_le _)

end Go.Proofs.YtfocdefchbnkpaaGreatDoor
