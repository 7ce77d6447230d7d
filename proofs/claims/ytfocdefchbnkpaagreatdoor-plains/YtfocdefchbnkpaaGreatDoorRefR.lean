/- The whole text, as the document's own function reads it: the walk. -/
import Derived.Test.YtfocdefchbnkpaaGreatDoorRefL
import Derived.Test.YtfocdefchbnkpaaGreatDoorRefM
import Derived.Test.YtfocdefchbnkpaaGreatDoorRefP
import Derived.Test.YtfocdefchbnkpaaGreatDoorRefQ
import Derived.Deep.CutRange
import Derived.Deep.RegionWith
import Derived.Deep.RegionHeld3
import Derived.Deep.AppendLies
import Derived.Maps.AppendAt
import Derived.Laws.AppendOwnNone
namespace Go.Proofs.YtfocdefchbnkpaaGreatDoor
open Go.RowKit

theorem field_tok0 (a b c : Value) (w : World) : (Instr.field 115 (.agg #[a, b, c]) 0).run Tryz.prog w = .ok a w := by kernel_rfl
theorem ret_nnn {a b : Int} {c d : Int} {v : Value} (h : a = b) (h2 : c = d) : Ending.returned (.tuple #[v, .int .i64 a, .int .i64 c]) = .returned (.tuple #[v, .int .i64 b, .int .i64 d]) := by rw [h, h2]

theorem hosts_rulesR {w : World} {css : List (List Value)} {hs : List R.Hst} (h : All2 (HostVal w) css hs) (k : Nat) (hk : k < hs.length) : ∃ vR, css.flatten[k * 2 + 1]? = some vR ∧ RulesRow w vR hs[k].rules := by
  induction h generalizing k with
  | nil => simp at hk
  | @cons c r cs rs hc _ ih =>
    obtain ⟨vR, rfl, hr⟩ := hc
    match k with
    | 0 => exact ⟨vR, rfl, hr⟩
    | k + 1 =>
      obtain ⟨v, h1, h2⟩ := ih k (by simpa using hk)
      refine ⟨v, ?_, h2⟩
      rw [List.flatten_cons, List.getElem?_append_right (by simp; omega)]
      simp only [List.length_cons, List.length_nil]
      rw [show (k + 1) * 2 + 1 - (0 + 1 + 1) = k * 2 + 1 by omega]
      exact h1
theorem rules_len {w : World} {v : Value} {rs : List R.Rl} (h : RulesRow w v rs) : ∃ a c, v = .slice a rs.length c := by
  obtain ⟨css, h1, _⟩ := h; exact len_row h1

/-- How many hosts a reader has, for a loop's measure. -/
def hcount (w : World) (rb : Nat) : Nat := match w.cell? ⟨rb, 5, none⟩ with | some v => lenOf v | none => 0
theorem hcount_of {w : World} {rb g cap : Nat} {ts : List R.Tok} {st : R.St} {H : Value} (h : RInv w rb g cap ts st H) : hcount w rb = lenOf H := by
  unfold hcount
  rw [show w.cell? ⟨rb, 5, none⟩ = some H from cell_of_block h.rd]

theorem R.rlLoop_len (ts : List R.Tok) (n : Nat) : ∀ (st : R.St) (acc : List R.Rl), (R.rlLoop ts n st acc).1.length + st.K ≤ acc.length + (R.rlLoop ts n st acc).2.K := by
  induction n with
  | zero => intro st acc; exact Nat.le_refl _
  | succ n ih =>
    intro st acc; unfold R.rlLoop; split
    · rename_i h
      have h1 := R.ruleS_K ts st acc.length (acc.map R.Rl.number) h
      have h2 := ih (R.ruleS ts st acc.length (acc.map R.Rl.number)).2 (acc ++ [(R.ruleS ts st acc.length (acc.map R.Rl.number)).1])
      rw [List.length_append] at h2; simp only [List.length_cons, List.length_nil] at h2; omega
    · exact Nat.le_refl _
theorem R.hostS_rules (ts : List R.Tok) (st : R.St) (l : List (List UInt8)) : (R.hostS ts st l).1.rules.length ≤ (R.hostS ts st l).2.K := by
  unfold R.hostS R.hsB; simp only
  have h1 := R.rlLoop_len ts (ts.length + 1) (R.needS ts (R.hsA ts st l).2 [123]) []
  have h2 := R.needS_K ts (R.rlLoop ts (ts.length + 1) (R.needS ts (R.hsA ts st l).2 [123]) []).2 [125]
  simp only [List.length_nil] at h1
  omega

def R.nameLt (a b : List UInt8) : Bool := Op.bytesLess a b
theorem R.nameLt_eq (a b : List UInt8) : Op.bytesLess (R.str a).toList (R.str b).toList = R.nameLt a b := by rw [Lib.toList_data, Lib.toList_data, R.str_toList, R.str_toList]; rfl
def R.insHK (h : R.Hst) (out : List R.Hst) : Nat := (out.takeWhile fun o => R.nameLt o.name h.name).length
def R.insH (out : List R.Hst) (h : R.Hst) : List R.Hst := out.take (R.insHK h out) ++ [h] ++ out.drop (R.insHK h out)
def R.sortH (hs : List R.Hst) : List R.Hst := hs.foldl (fun out h => R.insH out ⟨h.name, R.sorted h.rules⟩) []

theorem info_hst : (Tryz.prog.info? 119).map (fun i => (i.zero, i.size, i.bytes)) = some (some (.agg #[.string ⟨#[]⟩, .slice none 0 0]), 2, 40) := by kernel_rfl
theorem insHK_le (r : R.Hst) (out : List R.Hst) : R.insHK r out ≤ out.length := by
  unfold R.insHK
  exact (List.takeWhile_sublist _).length_le
theorem insH_len (out : List R.Hst) (r : R.Hst) : (R.insH out r).length = out.length + 1 := by
  have := insHK_le r out
  unfold R.insH
  simp
  omega
theorem sortH_snoc (l : List R.Hst) (r : R.Hst) : R.sortH (l ++ [r]) = R.insH (R.sortH l) ⟨r.name, R.sorted r.rules⟩ := by
  unfold R.sortH; rw [List.foldl_append]; rfl
theorem sortH_len (l : List R.Hst) : (R.sortH l).length = l.length := by
  unfold R.sortH
  have : ∀ (l out : List R.Hst), (l.foldl (fun out h => R.insH out ⟨h.name, R.sorted h.rules⟩) out).length = out.length + l.length := by
    intro l
    induction l with
    | nil => intro out; rfl
    | cons a l ih => intro out; rw [List.foldl_cons, ih, insH_len]; simp; omega
  rw [this]; simp
theorem host_one {w : World} {cs : List Value} {r : R.Hst} (h : HostVal w cs r) : ∀ u ∈ cs, u.oneCell' = true := by
  obtain ⟨vR, rfl, css, h1, _⟩ := h
  obtain ⟨_, _, rfl⟩ := len_row h1
  intro u hu
  simp at hu
  rcases hu with rfl | rfl <;> rfl
theorem hosts_one {w : World} {css : List (List Value)} {rs : List R.Hst} (h : All2 (HostVal w) css rs) : ∀ u ∈ css.flatten, u.oneCell' = true := by
  induction h with
  | nil => intro u hu; simp at hu
  | cons h _ ih =>
    intro u hu
    rw [List.flatten_cons, List.mem_append] at hu
    rcases hu with hu | hu
    · exact host_one h u hu
    · exact ih u hu
theorem host_len {w : World} {cs : List Value} {r : R.Hst} (h : HostVal w cs r) : cs.length = 2 := by
  obtain ⟨vR, rfl, _⟩ := h; rfl
theorem flat_takeH {w : World} {css : List (List Value)} {rs : List R.Hst} (h : All2 (HostVal w) css rs) (k : Nat) : (css.take k).flatten = css.flatten.take (k * 2) := by
  induction h generalizing k with
  | nil => simp
  | @cons c r cs rs h _ ih =>
    match k with
    | 0 => simp
    | k + 1 =>
      have e := host_len h
      rw [List.take_succ_cons, List.flatten_cons, List.flatten_cons, ih k, List.take_append, e, List.take_of_length_le (l := c) (by omega), show (k + 1) * 2 - 2 = k * 2 by omega]
theorem flat_dropH {w : World} {css : List (List Value)} {rs : List R.Hst} (h : All2 (HostVal w) css rs) (k : Nat) : (css.drop k).flatten = css.flatten.drop (k * 2) := by
  induction h generalizing k with
  | nil => simp
  | @cons c r cs rs h _ ih =>
    match k with
    | 0 => simp
    | k + 1 =>
      have e := host_len h
      rw [List.drop_succ_cons, List.flatten_cons, ih k, List.drop_append, e, List.drop_of_length_le (l := c) (by omega), show (k + 1) * 2 - 2 = k * 2 by omega]; rfl

def R.errS (l : List UInt8) : Int × Int :=
  if 3000 < l.length then (1, 0) else if 0 ≤ (R.readS l).2.bad then (2, (R.readS l).2.bad) else ((R.readS l).2.E, if (R.readS l).2.E = 0 then 0 else (R.readS l).2.at_)

set_option maxRecDepth 100000 in
set_option maxHeartbeats 4000000 in
theorem ref_Policy (s : ByteArray) (w : World) (hss : s.size ≤ maxLen) :
    Calls Tryz.prog 34 #[.string s] w fun e w' => ∃ v, e = .returned (.tuple #[v, .int .i64 (R.errS s.data.toList).1, .int .i64 (R.errS s.data.toList).2]) ∧ Below w.heap.size w w' ∧ ((R.errS s.data.toList).1 = 0 → HostsRow w' w.heap.size v (R.sortH (R.readS s.data.toList).1)) := by
  unfold maxLen at hss
  obtain ⟨i0, hi, hz0, hz1, hz2⟩ := info_parts info_hst
  by_cases hlong : 3000 < s.size
  · have HE : Hid (R.errS s.data.toList = (1, 0)) := by show R.errS _ = _; unfold R.errS; rw [if_pos (by rw [R.size_eq]; exact hlong)]
    go_enter Tryz.func34, Tryz.ntmps34
    go_wp2
    go_ret3
    exact ⟨_, by rw [HE.out]; rfl, Below.refl _ _, fun h => absurd h (by rw [HE.out]; decide)⟩
  · have hs3 : s.size ≤ 3000 := by omega
    have HEr : Hid (R.errS s.data.toList = if 0 ≤ (R.readS s.data.toList).2.bad then (2, (R.readS s.data.toList).2.bad) else ((R.readS s.data.toList).2.E, if (R.readS s.data.toList).2.E = 0 then 0 else (R.readS s.data.toList).2.at_)) := by
      show R.errS _ = _; unfold R.errS; rw [if_neg (by rw [R.size_eq]; exact hlong)]
    have HRd : Hid (R.readS s.data.toList = R.hsLoop (R.toks s.data.toList) ((R.toks s.data.toList).length + 2) R.st0 []) := rfl
    obtain ⟨hok, hpos⟩ := R.toks_ok s.data.toList (by rw [R.size_eq]; exact hs3)
    have HOk : Hid _ := hok
    have HTk : Hid (∀ w, Calls Tryz.prog 50 #[.string s] w fun e w' => ∃ v, e = .returned v ∧ w'.ownsRow w.heap.size 115 3 v (R.toks s.data.toList).length (R.tokCells (R.toks s.data.toList)) ∧ Below w.heap.size w w') := fun w => ref_Tokens s w hs3
    generalize R.toks s.data.toList = ts at *
    generalize R.errS s.data.toList = er at *
    generalize R.readS s.data.toList = rd at *
    clear hok hss
    go_enter Tryz.func34, Tryz.ntmps34
    go_wp2_with fail
    refine (HTk.out w).mono ?_
    rintro e w1 ⟨v, rfl, hown, hb1⟩
    obtain ⟨g, cap, rfl, hgB, hgl⟩ := World.ownsRow.form hown hpos
    have hNI : RInv (w1.alloc (.cells #[.slice (some ⟨g, 0, none⟩) ts.length cap, .int .i64 0, .int .i64 (-1), .int .i64 0, .int .i64 0, .slice none 0 0] 113)) w1.heap.size g cap ts R.st0 (.slice none 0 0) := by
      refine ⟨heap_alloc_new _ _, ?_, by omega, hpos, HOk.out⟩
      rcases hown.2 with ⟨h1, _⟩ | ⟨g', cap', cur, h1, _, h2, _, _, _, h3⟩
      · cases h1
      · simp only [Value.slice.injEq, Option.some.injEq, Addr.mk.injEq] at h1
        obtain ⟨⟨rfl, _⟩, _, _⟩ := h1
        exact ⟨cur, by rw [Below.heap_alloc _ _ _ hgl]; exact h2, h3⟩
    have HB1 : Hid (Below w.heap.size w (w1.alloc (.cells #[.slice (some ⟨g, 0, none⟩) ts.length cap, .int .i64 0, .int .i64 (-1), .int .i64 0, .int .i64 0, .slice none 0 0] 113))) := hb1.alloc hb1.size _
    have HI1 : Hid _ := hNI
    have zrb : w.heap.size ≤ w1.heap.size := hb1.size
    clear hNI hown hb1 hgB hgl
    go_wp2_with fail
    generalize hrbE : w1.heap.size = rb at *
    generalize World.alloc w1 (.cells #[.slice (some ⟨g, 0, none⟩) ts.length cap, .int .i64 0, .int .i64 (-1), .int .i64 0, .int .i64 0, .slice none 0 0] 113) = wB at *
    clear hrbE
    go_loopw [] (fun wr => ∃ (n : Nat) (hs : List R.Hst) (st : R.St) (H : Value), Hid (R.hsLoop ts n st hs = rd) ∧ hs.length ≤ st.K + 1 ∧ (st.bad < 0 → hs.length ≤ st.K) ∧ ts.length + 1 < n + hs.length ∧ Hid (RInv wr rb g cap ts st H) ∧ Hid (HostsRow wr w.heap.size H hs) ∧ Hid (Below w.heap.size w wr) ∧ Hid (∀ h ∈ hs, h.rules.length ≤ 4000)) (fun wr => ts.length + 2 - hcount wr rb)
    case atStart => exact ⟨ts.length + 2, [], R.st0, _, HRd.out.symm, by simp, fun _ => by simp, by simp, HI1, ⟨[], World.ownsRow_nil _ _ _ _, .nil⟩, HB1, fun h hh => by simp at hh⟩
    case round =>
      obtain ⟨n, hs, st, H, HL, hl1, hl2, hn, IR, HH, HB, HRl⟩ := hrel
      have bwr : rb < wr.heap.size := block_lt IR.out.rd
      have c2 : wr.cell? ⟨rb, 2, none⟩ = some (.int .i64 st.bad) := cell_of_block IR.out.rd
      have hlt := IR.out.lt
      have hts := IR.out.ok.len
      have hft := field_tok0
      obtain ⟨n, rfl⟩ : ∃ m, n = m + 1 := ⟨n - 1, by omega⟩
      have HL1 := HL.out
      rw [R.hsLoop] at HL1
      by_cases hgo : st.bad < 0 ∧ (R.cur ts st).k ≠ 0
      · rw [if_pos hgo] at HL1
        have hb : st.bad < 0 := hgo.1
        have hk0 : ((R.cur ts st).k != 0) = true := by rw [bne_iff_ne]; exact hgo.2
        have hg1 := R.hostS_K ts st (hs.map R.Hst.name)
        have hg2 := R.hostS_go ts st (hs.map R.Hst.name) hb
        have hlk := hl2 hb
        have HLm : Hid (hcount wr rb = hs.length) := by
          show hcount wr rb = _
          rw [hcount_of IR.out]; obtain ⟨css, h1, _⟩ := HH.out; exact lenOf_row h1
        clear hgo hl2
        go_wp2_with fail
        refine (ref_now IR.out IR.out.cur).mono ?_
        rintro e w2 ⟨rfl, hg⟩
        have J2 : Hid (RInv w2 rb g cap ts st H) := IR.out.keep hg
        have HH2 : Hid (HostsRow w2 w.heap.size H hs) := HH.out.keep hg (safe_none _ _)
        have HB2 : Hid (Below w.heap.size w w2) := HB.out.trans ((below_of_grown hg).mono HB.out.size)
        clear hg
        go_wp2_with fail
        refine (ref_host J2.out hs HH2.out zrb (by omega)).mono ?_
        rintro e w3 ⟨rfl, hb3, H3, I3, hH3⟩
        have J3 : Hid _ := I3
        have HH3 : Hid _ := hH3
        have HB3 : Hid (Below w.heap.size w w3) := HB2.out.trans hb3
        have HL2 : Hid _ := HL1
        have HC3 : Hid (hcount w3 rb = hs.length + 1) := by
          show hcount w3 rb = _
          rw [hcount_of J3.out]; obtain ⟨css, h1, _⟩ := HH3.out; rw [lenOf_row h1]; simp
        have HRl3 : Hid (∀ h ∈ hs ++ [(R.hostS ts st (hs.map R.Hst.name)).1], h.rules.length ≤ 4000) := by
          intro h hh
          rcases List.mem_append.1 hh with hh | hh
          · exact HRl.out h hh
          · simp at hh; subst hh
            have h1 := R.hostS_rules ts st (hs.map R.Hst.name)
            have h2 := J3.out.lt
            omega
        clear I3 hH3 hb3 HL1 HL
        go_wp2
        go_roundw
        case rel => exact ⟨n, hs ++ [(R.hostS ts st (hs.map R.Hst.name)).1], _, H3, HL2, by rw [List.length_append]; simp; omega, fun h => by rw [List.length_append]; have := hg2 h; simp; omega, by rw [List.length_append]; simp; omega, J3, HH3, HB3, HRl3⟩
        case measure => rw [HC3.out, HLm.out]; omega
      · rw [if_neg hgo] at HL1
        have HQ1 : Hid (rd.1 = hs) := by rw [← HL1]; rfl
        have HQ2 : Hid (rd.2 = st) := by rw [← HL1]; rfl
        clear HL1 HL
        rw [HQ2.out] at HEr
        have c3 : wr.cell? ⟨rb, 3, none⟩ = some (.int .i64 st.E) := cell_of_block IR.out.rd
        have c4 : wr.cell? ⟨rb, 4, none⟩ = some (.int .i64 st.at_) := cell_of_block IR.out.rd
        by_cases hb : 0 ≤ st.bad
        · rw [if_pos hb] at HEr
          clear hgo hl2
          go_wp2
          go_region
          go_wp2
          go_ret3
          exact ⟨_, by rw [HEr.out]; rfl, HB.out.drew, fun h => absurd h (by rw [HEr.out]; exact (by decide : ¬ (2 : Int) = 0))⟩
        · have hk0 : (R.cur ts st).k = 0 := by
            apply Classical.byContradiction; intro h; exact hgo ⟨by omega, h⟩
          have hk1 : ((R.cur ts st).k != 0) = false := by rw [hk0]; rfl
          rw [if_neg hb] at HEr
          have hb2 : st.bad < 0 := by omega
          clear hgo hl2 hk0
          go_wp2_with fail
          refine (ref_now IR.out IR.out.cur).mono ?_
          rintro e w2 ⟨rfl, hg⟩
          have J2 : Hid (RInv w2 rb g cap ts st H) := IR.out.keep hg
          have HH2 : Hid (HostsRow w2 w.heap.size H hs) := HH.out.keep hg (safe_none _ _)
          have HB2 : Hid (Below w.heap.size w w2) := HB.out.trans ((below_of_grown hg).mono HB.out.size)
          have d2 : w2.cell? ⟨rb, 2, none⟩ = some (.int .i64 st.bad) := cell_of_block J2.out.rd
          have d3 : w2.cell? ⟨rb, 3, none⟩ = some (.int .i64 st.E) := cell_of_block J2.out.rd
          have d4 : w2.cell? ⟨rb, 4, none⟩ = some (.int .i64 st.at_) := cell_of_block J2.out.rd
          clear hg c2 c3 c4
          by_cases hE : st.E = 0
          · rw [if_pos hE] at HEr
            have hE2 : (st.E != 0) = false := by rw [hE]; rfl
            have HE0 : Hid (st.E = 0) := hE
            clear hE
            obtain ⟨css, hrow, hall⟩ := HH2.out
            obtain ⟨ha, hc, rfl⟩ := len_row hrow
            have HRow : Hid _ := hrow
            have HAll : Hid _ := hall
            clear hrow hall
            obtain ⟨wo, hwo⟩ : ∃ x, x = w2 := ⟨w2, rfl⟩
            subst hwo
            go_wp2_with fail
            go_loopw [6, 7] (fun vv iv wz => ∃ (i : Nat) (cs : List (List Value)), i ≤ hs.length ∧ iv = .int .i64 i ∧ Hid (wz.ownsRow w.heap.size 119 2 vv i cs.flatten) ∧ Hid (All2 (HostVal wz) cs (R.sortH (hs.take i))) ∧ Hid (RInv wz rb g cap ts st (.slice ha hs.length hc)) ∧ Hid (wo.grownBy wz none)) (fun _ iv _ => hs.length - (intOf iv).toNat)
            case atStart => exact ⟨0, [], Nat.zero_le _, rfl, World.ownsRow_nil _ _ _ _, .nil, J2, grown_refl _ _⟩
            case round =>
              obtain ⟨i, cs, hil, rfl, HO, HA, IZ, HZ⟩ := hrel
              obtain ⟨oa, oc, rfl⟩ := len_row HO.out
              have b5 : wr.cell? ⟨rb, 5, none⟩ = some (.slice ha hs.length hc) := cell_of_block IZ.out.rd
              by_cases hlti : i < hs.length
              · obtain ⟨gh, ghc, hgh, _, hghl⟩ := World.ownsRow.form HRow.out (by omega)
                simp only [Value.slice.injEq] at hgh
                obtain ⟨rfl, _, rfl⟩ := hgh
                obtain ⟨vR, hvR, hRR⟩ := hosts_rulesR HAll.out i hlti
                have hrl4 := HRl.out hs[i] (List.getElem_mem hlti)
                have HRR : Hid (RulesRow wr vR hs[i].rules) := hRR.keep HZ.out (safe_none _ _)
                obtain ⟨csr, hrr, har⟩ := hRR
                obtain ⟨ra, rc, rfl⟩ := len_row hrr
                clear hrr har
                have e0 : wr.cell? ⟨gh, i * 2, none⟩ = some (.string (R.str hs[i].name)) := by
                  refine HZ.out.cell (a := ⟨gh, i * 2, none⟩) ?_ (by simp)
                  rw [World.ownsRow.cellAt HRow.out (i * 2) (by omega), hosts_name HAll.out i hlti]
                have e1 : wr.cell? ⟨gh, i * 2 + 1, none⟩ = some (.slice ra hs[i].rules.length rc) := by
                  refine HZ.out.cell (a := ⟨gh, i * 2 + 1, none⟩) ?_ (by simp)
                  rw [World.ownsRow.cellAt HRow.out (i * 2 + 1) (by omega), hvR]
                clear hvR
                have hiI : (i : Int) < hs.length := by omega
                have hghr : gh < wr.heap.size := by have h := HZ.out.size; omega
                have hrbr : rb < wr.heap.size := block_lt IZ.out.rd
                have HS : Hid (R.sortH (hs.take (i + 1)) = R.insH (R.sortH (hs.take i)) ⟨hs[i].name, R.sorted hs[i].rules⟩) := by
                  show R.sortH _ = _
                  rw [List.take_succ_eq_append_getElem hlti, sortH_snoc]
                have hso : (R.sortH (hs.take i)).length = i := by rw [sortH_len, List.length_take]; omega
                have hcl : cs.length = i := by rw [HA.out.len, hso]
                generalize R.sortH (hs.take i) = out at *
                generalize hs[i] = hh at *
                have HgA : Hid (wr.grownBy (World.drew (World.alloc wr (.cells #[.string ⟨#[]⟩, .slice none 0 0] 119))) none) := grown_trans (World.grownBy_alloc _ _ _) (grown_drew _)
                have HNA : Hid ((World.drew (World.alloc wr (.cells #[.string ⟨#[]⟩, .slice none 0 0] 119))).heap[wr.heap.size]? = some (.cells #[.string ⟨#[]⟩, .slice none 0 0] 119)) := heap_alloc_new wr _
                go_wp2
                go_cut [8] from 62 to 79 (fun s8 wx => ∃ (b8 : Nat) (sa : Option Addr) (sc : Nat), s8 = .pointer (some ⟨b8, 0, none⟩) ∧ Hid (wx.heap[b8]? = some (.cells #[.string (R.str hh.name), .slice sa (R.sorted hh.rules).length sc] 119)) ∧ Hid (RulesRow wx (.slice sa (R.sorted hh.rules).length sc) (R.sorted hh.rules)) ∧ Hid (wr.grownBy wx none) ∧ wr.heap.size ≤ b8)
                case first =>
                  have HCs : Hid (∀ W, wr.grownBy W none → Calls Tryz.prog 53 #[.slice ra hh.rules.length rc] W fun e w' => ∃ sa sc, e = .returned (.slice sa (R.sorted hh.rules).length sc) ∧ wr.grownBy w' none ∧ RulesRow w' (.slice sa (R.sorted hh.rules).length sc) (R.sorted hh.rules) ∧ W.grownBy w' none) := fun W hW =>
                    (ref_sorted (.slice ra hh.rules.length rc) hh.rules (HRR.out.keep hW (safe_none _ _)) hrl4).mono (by rintro e wS ⟨vS, rfl, hbS, hrS⟩; obtain ⟨sa, sc, rfl⟩ := rules_len hrS; exact ⟨sa, sc, rfl, grown_trans hW (grown_of_below hbS), hrS, grown_of_below hbS⟩)
                  try clear hm0
                  try clear IZ
                  try clear HO
                  try clear HA
                  try clear HRow
                  try clear HAll
                  try clear HRl
                  try clear HH2
                  try clear HB2
                  try clear HZ
                  try clear J2
                  try clear HEr
                  try clear HRd
                  try clear HOk
                  try clear HTk
                  try clear HQ1
                  try clear HQ2
                  try clear HI1
                  try clear HB1
                  try clear HE0
                  try clear hE2
                  try clear d2
                  try clear d3
                  try clear d4
                  try clear hk1
                  try clear hb2
                  try clear hb
                  try clear hft
                  try clear hts
                  try clear hlt
                  try clear HgA
                  try clear HRR
                  try clear hrl4
                  try clear hil
                  try clear hghl
                  try clear hghc
                  try clear HH
                  try clear IR
                  try clear HB
                  try clear bwr
                  try clear hg1
                  try clear hn
                  try clear hl1
                  try clear zrb
                  try clear hlong
                  try clear hs3
                  try clear hpos
                  have p0 : rb ≠ wr.heap.size := by omega
                  have p1 : gh ≠ wr.heap.size := by omega
                  go_region_held3 (fun W => W.cell? ⟨rb, 5, none⟩ = some (.slice (some ⟨gh, 0, none⟩) hs.length hc) ∧ W.cell? ⟨gh, i * 2, none⟩ = some (.string (R.str hh.name)) ∧ W.cell? ⟨gh, i * 2 + 1, none⟩ = some (.slice ra hh.rules.length rc)) (go_keep) (first
                    | (go_at_call 53; show Calls _ _ _ (World.drew (World.alloc wr (.cells #[.string ⟨#[]⟩, .slice none 0 0] 119))) _; refine (HCs.out _ (grown_trans (World.grownBy_alloc _ _ _) (grown_drew _))).mono ?_; rintro e wS ⟨sa, sc, rfl, hgS, hrS, hgW⟩; have HrS : Hid _ := hrS; have HgS : Hid _ := hgS; have p5 : wS.cell? ⟨rb, 5, none⟩ = some (.slice (some ⟨gh, 0, none⟩) hs.length hc) := hgS.cell b5 (by simp); have p6 : wS.cell? ⟨gh, i * 2, none⟩ = some (.string (R.str hh.name)) := hgS.cell e0 (by simp); have p7 : wS.cell? ⟨gh, i * 2 + 1, none⟩ = some (.slice ra hh.rules.length rc) := hgS.cell e1 (by simp); have HN8 : Hid (wS.heap[wr.heap.size]? = some (.cells #[.string ⟨#[]⟩, .slice none 0 0] 119)) := keep_block HNA.out hgW (by simp); have p80 : wS.cell? ⟨wr.heap.size, 0, none⟩ = some (.string ⟨#[]⟩) := cell_of_block HN8.out; have p81 : wS.cell? ⟨wr.heap.size, 1, none⟩ = some (.slice none 0 0) := cell_of_block HN8.out; have p8f0 : wS.frozen? ⟨wr.heap.size, 0, none⟩ = false := frozen_of_block HN8.out; have p8f1 : wS.frozen? ⟨wr.heap.size, 1, none⟩ = false := frozen_of_block HN8.out; have n5 : wr.heap.size ≠ rb := Ne.symm p0; have n6 : wr.heap.size ≠ gh := Ne.symm p1; clear hgS hrS hgW)
                    | (go_at_call 53; show Calls _ _ _ (World.drew wr) _; refine (HCs.out _ (grown_drew wr)).mono ?_; rintro e wS ⟨sa, sc, rfl, hgS, hrS, hgW⟩; have HrS : Hid _ := hrS; have HgS : Hid _ := hgS; have p5 : wS.cell? ⟨rb, 5, none⟩ = some (.slice (some ⟨gh, 0, none⟩) hs.length hc) := hgS.cell b5 (by simp); have p6 : wS.cell? ⟨gh, i * 2, none⟩ = some (.string (R.str hh.name)) := hgS.cell e0 (by simp); have p7 : wS.cell? ⟨gh, i * 2 + 1, none⟩ = some (.slice ra hh.rules.length rc) := hgS.cell e1 (by simp); have n5 : wS.heap.size ≠ rb := World.new_ne wS _ p5; have n6 : wS.heap.size ≠ gh := World.new_ne wS _ p6; clear hgS hrS hgW))
                  · go_wp2_with fail
                    go_meet
                    case rel => exact ⟨wS.heap.size, sa, sc, rfl, heap_alloc_new _ _, RulesRow.keep HrS.out (World.grownBy_alloc _ _ _) (safe_none _ _), grown_trans HgS.out (World.grownBy_alloc _ _ _), HgS.out.size⟩
                  · have hg3 := grown_trans (grown_setCell wS wr.heap.size 0 (.string (R.str hh.name))) (grown_setCell _ wr.heap.size 1 (.slice sa (R.sorted hh.rules).length sc))
                    go_wp2_with fail
                    go_meet
                    case rel => exact ⟨wr.heap.size, sa, sc, rfl, block_setCell (block_setCell HN8.out _) _, RulesRow.keep HrS.out hg3 (safe_box HN8.out (by decide)), grown_new HgS.out hg3 (Nat.le_refl _), Nat.le_refl _⟩
                case rest =>
                  obtain ⟨b8, sa, sc, rfl, HN8, HR8, HG8, hb8⟩ := hcut
                  have HOc : Hid (wc.ownsRow w.heap.size 119 2 (.slice oa i oc) i cs.flatten) := own_away HO.out HG8.out (fun k hk c => by cases c)
                  have HAc : Hid (All2 (HostVal wc) cs out) := HA.out.map fun a b hab => hab.keep HG8.out (safe_none _ _)
                  have HZc : Hid (wo.grownBy wc none) := grown_trans HZ.out HG8.out
                  have HIc : Hid (RInv wc rb g cap ts st (.slice (some ⟨gh, 0, none⟩) hs.length hc)) := IZ.out.keep HG8.out
                  have zc : w.heap.size ≤ wc.heap.size := Nat.le_trans HB2.out.size HZc.out.size
                  have b8c : wc.cell? ⟨b8, 0, none⟩ = some (.string (R.str hh.name)) := cell_of_block HN8.out
                  have hb8l : b8 < wc.heap.size := block_lt HN8.out
                  clear HO HA HZ IZ HG8 b5 e0 e1
                  go_wp2
                  go_loopw [9] (fun kv wz => ∃ k : Nat, k ≤ i ∧ kv = .int .i64 k ∧ Hid (∀ j (hj : j < k) (ho : j < out.length), R.nameLt out[j].name hh.name = true) ∧ Hid (wc.grownBy wz none)) (fun kv _ => i - (intOf kv).toNat)
                  case atStart => exact ⟨0, Nat.zero_le _, rfl, fun j hj => absurd hj (by omega), grown_refl _ _⟩
                  case round =>
                    obtain ⟨k, hki, rfl, HK, HZr⟩ := hrel
                    have HOz : Hid (wr.ownsRow w.heap.size 119 2 (.slice oa i oc) i cs.flatten) := own_away HOc.out HZr.out (fun k hk c => by cases c)
                    have zz : wc.heap.size ≤ wr.heap.size := HZr.out.size
                    have d1 : wr.cell? ⟨b8, 0, none⟩ = some (.string (R.str hh.name)) := HZr.out.cell b8c (by simp)
                    have HAz : Hid (All2 (HostVal wr) cs out) := HAc.out.map fun a b hab => hab.keep HZr.out (safe_none _ _)
                    by_cases hk : k < i
                    · obtain ⟨go, goc, hgo, _, _⟩ := World.ownsRow.form HOz.out (by omega)
                      simp only [Value.slice.injEq] at hgo
                      obtain ⟨rfl, _, rfl⟩ := hgo
                      have hkI : (k : Int) < i := by omega
                      have d2 : wr.cell? ⟨go, k * 2, none⟩ = some (.string (R.str out[k].name)) := by
                        have hcc := World.ownsRow.cellAt HOz.out (k * 2) (by omega)
                        rw [hosts_name HAz.out k (by omega)] at hcc
                        exact hcc
                      by_cases hnl : R.nameLt out[k].name hh.name = true
                      · have HK2 : Hid (∀ j (hj : j < k + 1) (ho : j < out.length), R.nameLt out[j].name hh.name = true) := by
                          intro j hj ho
                          by_cases e : j = k
                          · subst e; exact hnl
                          · exact HK.out j (by omega) ho
                        have hlt2 := R.nameLt_eq out[k].name hh.name
                        rw [hnl] at hlt2
                        clear hnl
                        generalize hok : out[k].name = ok at *
                        clear hok
                        go_wp2_with fail
                        go_quiet (fail)
                        go_wp2
                        exact ⟨⟨k + 1, by omega, by go_num, HK2, grown_trans HZr.out (grown_drewN _ _)⟩, by simp [intOf]; omega⟩
                      · have HIk : Hid (R.insHK ⟨hh.name, R.sorted hh.rules⟩ out = k) := takeWhile_at _ _ _ (by omega) (fun j hj => HK.out j hj (by omega)) (fun _ => by simpa using hnl)
                        have hlt2 := R.nameLt_eq out[k].name hh.name
                        rw [show R.nameLt out[k].name hh.name = false by simpa using hnl] at hlt2
                        clear hnl
                        go_wp2_with fail
                        go_quiet (fail)
                        have hGq := grown_trans HZr.out (grown_drewN wr nq)
                        have HOq : Hid _ := own_away HOz.out (grown_drewN wr nq) (fun k hk c => by cases c)
                        have HAq : Hid (All2 (HostVal (wr.drewN nq)) cs out) := HAc.out.map fun a b hab => hab.keep hGq (safe_none _ _)
                        have HIq : Hid (RInv (wr.drewN nq) rb g cap ts st (.slice (some ⟨gh, 0, none⟩) hs.length hc)) := RInv.keep HIc.out hGq
                        have HZq : Hid (wo.grownBy (wr.drewN nq) none) := grown_trans HZc.out hGq
                        have HNq : Hid ((wr.drewN nq).heap[b8]? = some (.cells #[.string (R.str hh.name), .slice sa (R.sorted hh.rules).length sc] 119)) := keep_block HN8.out hGq (by simp)
                        have HR8q : Hid (RulesRow (wr.drewN nq) (.slice sa (R.sorted hh.rules).length sc) (R.sorted hh.rules)) := RulesRow.keep HR8.out hGq (safe_none _ _)
                        have zq : w.heap.size ≤ (wr.drewN nq).heap.size := Nat.le_trans zc hGq.size
                        clear hGq
                        generalize wr.drewN nq = wq at *
                        have H0 : Hid (wq.cell? ⟨b8, 0, none⟩ = some (.string (R.str hh.name))) := cell_of_block HNq.out
                        have H1 : Hid (wq.cell? ⟨b8, 1, none⟩ = some (.slice sa (R.sorted hh.rules).length sc)) := cell_of_block HNq.out
                        have HRq : Hid (HostVal wq [.string (R.str hh.name), .slice sa (R.sorted hh.rules).length sc] ⟨hh.name, R.sorted hh.rules⟩) := ⟨_, rfl, HR8q.out⟩
                        have hb8q : b8 < wq.heap.size := block_lt HNq.out
                        have HW : Hid (∀ j u, (cs.flatten)[j]? = some u → wq.cell? ⟨go, j, none⟩ = some u) := by
                          intro j u hu
                          have hjl := (List.getElem?_eq_some_iff.1 hu).1
                          rw [HOq.out.1] at hjl
                          rw [World.ownsRow.cellAt HOq.out j hjl]; exact hu
                        have hcap := own_cap HOq.out
                        unfold maxLen at hcap
                        obtain ⟨hcap1, hcap2⟩ := hcap
                        have HFl : Hid (cs.flatten.length = i * 2) := HOq.out.1
                        have HOne : Hid (∀ u ∈ cs.flatten, u.oneCell' = true) := hosts_one HAq.out
                        go_wp2_with (at_builtin; refine wpList_append_own _ rfl _ _ 67 rfl (wq.heap.size) 119 i0 _ 2 40 Tryz.underlying67 hi hz0 hz1 hz2 rfl (by decide) _ _ _ rfl (World.ownsRow_nil _ _ _ _) ⟨go, 0, none⟩ k oc (cs.flatten.take (k * 2)) rfl ?a1 ?a2 ?a3 ?a4 ?a5 ?a6 ?_)
                        case a1 => rw [List.length_take, HFl.out]; omega
                        case a2 =>
                          intro j u hu
                          rw [add_off]
                          rw [List.getElem?_take] at hu
                          split at hu
                          · exact HW.out j u hu
                          · cases hu
                        case a3 => exact fun u hu => HOne.out u (List.mem_of_mem_take hu)
                        case a4 => unfold maxLen; omega
                        case a5 => omega
                        case a6 => exact Nat.le_refl _
                        intro v1 w1 hown1 hgrow1 _
                        obtain ⟨n1a, n1c, rfl⟩ := len_row hown1
                        have g1 : wq.grownBy w1 none := hgrow1
                        have HO1 : Hid _ := hown1
                        have HQ1 : Hid _ := own_away HOq.out hgrow1 (fun k hk c => by cases c)
                        have z1 : wq.heap.size ≤ w1.heap.size := hgrow1.size
                        have d0 := g1.cell H0.out (by simp)
                        have d1 := g1.cell H1.out (by simp)
                        have HG1 : Hid _ := g1
                        clear hown1 hgrow1 g1
                        go_wp2_with (at_builtin; refine wpList_append_lies _ rfl _ _ 67 rfl (wq.heap.size) 119 i0 _ 2 40 Tryz.underlying67 hi hz0 hz1 hz2 rfl (by decide) _ _ _ rfl (World.ownsRow.alloc HO1.out _) ⟨w1.heap.size, 0, none⟩ 1 1 [.string (R.str hh.name), .slice sa (R.sorted hh.rules).length sc] rfl rfl ?c1 ?c2 (by decide) ?c3 ?c4 ?c5 (w1.heap.size + 1) (by simp) ?_)
                        case c1 => exact cells_new _ #[_, _] _ _ (by simp)
                        case c2 => exact host_one HRq.out
                        case c3 => unfold maxLen; omega
                        case c4 => omega
                        case c5 => simp; omega
                        intro g2 cap2 w2 hown2 hgrow2 _ _
                        have HO2 : Hid _ := hown2
                        have HQ2 : Hid _ := own_away (World.ownsRow.alloc HQ1.out _) hgrow2 (fun k hk c => by have h1 := (World.ownsRow.lt HOq.out k hk).2; have h2 := (World.ownsRow.lt HO1.out k c).1; omega)
                        have z2 : w1.heap.size + 1 ≤ w2.heap.size := by have h := hgrow2.size; simpa using h
                        have HG2 : Hid _ := hgrow2
                        clear hown2 hgrow2
                        have HW2 : Hid (∀ j u, (cs.flatten)[j]? = some u → w2.cell? ⟨go, j, none⟩ = some u) := by
                          intro j u hu
                          have hjl := (List.getElem?_eq_some_iff.1 hu).1
                          rw [HOq.out.1] at hjl
                          rw [World.ownsRow.cellAt HQ2.out j hjl]; exact hu
                        go_wp2_with (at_builtin; refine wpList_append_own _ rfl _ _ 67 rfl (wq.heap.size) 119 i0 _ 2 40 Tryz.underlying67 hi hz0 hz1 hz2 rfl (by decide) _ _ _ rfl HO2.out ⟨go, k * 2, none⟩ (i - k) (oc - k) (cs.flatten.drop (k * 2)) rfl ?b1 ?b2 ?b3 ?b4 ?b5 ?b6 ?_)
                        case b1 => rw [List.length_drop, HFl.out]; omega
                        case b2 =>
                          intro j u hu
                          rw [List.getElem?_drop] at hu
                          have := HW2.out (k * 2 + j) u hu
                          unfold Addr.add
                          split
                          · rename_i h0; subst h0; exact this
                          · exact this
                        case b3 => exact fun u hu => HOne.out u (List.mem_of_mem_drop hu)
                        case b4 => unfold maxLen; omega
                        case b5 => omega
                        case b6 => omega
                        intro v3 w3 hown3 hgrow3 _
                        have gA := World.grownBy_alloc w1 (.cells #[.string (R.str hh.name), .slice sa (R.sorted hh.rules).length sc] 119) none
                        have sA2 : Safe (w1.alloc (.cells #[.string (R.str hh.name), .slice sa (R.sorted hh.rules).length sc] 119)) (Value.slice n1a k n1c).ownBlock rtags := safe_row (World.ownsRow.alloc HO1.out _) (by decide)
                        have sA3 : Safe w2 (Value.slice (some ⟨g2, 0, none⟩) (k + 1) cap2).ownBlock rtags := safe_row HO2.out (by decide)
                        have kp : ∀ a b, HostVal wq a b → HostVal w3 a b := fun a b hab => (((hab.keep HG1.out (safe_none _ _)).keep gA (safe_none _ _)).keep HG2.out sA2).keep hgrow3 sA3
                        have HA3 : Hid (All2 (HostVal w3) (cs.take k ++ ([[.string (R.str hh.name), .slice sa (R.sorted hh.rules).length sc]] : List (List Value)) ++ cs.drop k) (R.sortH (hs.take (i + 1)))) := by
                          rw [HS.out]; unfold R.insH; rw [HIk.out]
                          exact ((HAq.out.take k).append (.cons HRq.out .nil) |>.append (HAq.out.drop k)).map kp
                        have HO3 : Hid (w3.ownsRow w.heap.size 119 2 v3 (i + 1) (cs.take k ++ ([[.string (R.str hh.name), .slice sa (R.sorted hh.rules).length sc]] : List (List Value)) ++ cs.drop k).flatten) := by
                          rw [List.flatten_append, List.flatten_append, flat_takeH HAq.out, flat_dropH HAq.out, show i + 1 = k + 1 + (i - k) by omega, show ([[.string (R.str hh.name), .slice sa (R.sorted hh.rules).length sc]] : List (List Value)).flatten = [.string (R.str hh.name), .slice sa (R.sorted hh.rules).length sc] from rfl, List.append_assoc]
                          exact row_base hown3 zq
                        have hg23 : wq.grownBy w3 none := by
                          refine grown_of_below ?_
                          have b1 := below_of_grown HG1.out
                          have b2 := (b1.alloc (by omega) (.cells #[.string (R.str hh.name), .slice sa (R.sorted hh.rules).length sc] 119)).grown HG2.out (by simp; omega) (fun k hk => by have := (World.ownsRow.lt HO1.out k hk).1; omega)
                          exact b2.grown hgrow3 (by omega) (fun k hk => by have := (World.ownsRow.lt HO2.out k hk).1; omega)
                        have HB3 : Hid (wo.grownBy w3 none) := grown_trans HZq.out hg23
                        have HI3 : Hid (RInv w3 rb g cap ts st (.slice (some ⟨gh, 0, none⟩) hs.length hc)) := RInv.keep HIq.out hg23
                        clear hown3 hgrow3 kp sA2 sA3 gA hg23
                        obtain ⟨n3a, n3c, rfl⟩ := len_row HO3.out
                        go_wp2
                        go_roundw
                        case rel => exact ⟨i + 1, _, by omega, by go_num, HO3, HA3, HI3, HB3⟩
                        case measure => simp [intOf]; omega
                    · have HIk : Hid (R.insHK ⟨hh.name, R.sorted hh.rules⟩ out = k) := takeWhile_at _ _ _ (by omega) (fun j hj => HK.out j hj (by omega)) (fun h => by omega)
                      obtain rfl : k = i := by omega
                      clear hk hki
                      have hO2 := HOz.out.2
                      rcases hO2 with ⟨hnil, hi0⟩ | ⟨go, goc, cur, hsl, _, _, _⟩
                      · simp only [Value.slice.injEq] at hnil
                        obtain ⟨rfl, rfl, rfl⟩ := hnil
                        clear hi0
                        go_wp2_with fail
                        go_quiet (fail)
                        have hGq := grown_trans HZr.out (grown_drewN wr nq)
                        have HAq : Hid (All2 (HostVal (wr.drewN nq)) cs out) := HAc.out.map fun a b hab => hab.keep hGq (safe_none _ _)
                        have HIq : Hid (RInv (wr.drewN nq) rb g cap ts st (.slice (some ⟨gh, 0, none⟩) hs.length hc)) := RInv.keep HIc.out hGq
                        have HZq : Hid (wo.grownBy (wr.drewN nq) none) := grown_trans HZc.out hGq
                        have HNq : Hid ((wr.drewN nq).heap[b8]? = some (.cells #[.string (R.str hh.name), .slice sa (R.sorted hh.rules).length sc] 119)) := keep_block HN8.out hGq (by simp)
                        have HR8q : Hid (RulesRow (wr.drewN nq) (.slice sa (R.sorted hh.rules).length sc) (R.sorted hh.rules)) := RulesRow.keep HR8.out hGq (safe_none _ _)
                        have zq : w.heap.size ≤ (wr.drewN nq).heap.size := Nat.le_trans zc hGq.size
                        clear hGq
                        generalize wr.drewN nq = wq at *
                        have H0 : Hid (wq.cell? ⟨b8, 0, none⟩ = some (.string (R.str hh.name))) := cell_of_block HNq.out
                        have H1 : Hid (wq.cell? ⟨b8, 1, none⟩ = some (.slice sa (R.sorted hh.rules).length sc)) := cell_of_block HNq.out
                        have HRq : Hid (HostVal wq [.string (R.str hh.name), .slice sa (R.sorted hh.rules).length sc] ⟨hh.name, R.sorted hh.rules⟩) := ⟨_, rfl, HR8q.out⟩
                        have hb8q : b8 < wq.heap.size := block_lt HNq.out
                        have d0 := H0.out
                        have d1 := H1.out
                        go_wp2_with (first
                          | (at_builtin; refine wpList_append_own_none rfl _ _ 67 rfl (wq.heap.size) 119 i0 2 Tryz.underlying67 hi _ _ _ rfl (World.ownsRow_nil _ _ _ _) rfl ?_)
                          | (at_builtin; refine wpList_append_lies _ rfl _ _ 67 rfl (wq.heap.size) 119 i0 _ 2 40 Tryz.underlying67 hi hz0 hz1 hz2 rfl (by decide) _ _ _ rfl (World.ownsRow_nil _ _ _ _) ⟨wq.heap.size, 0, none⟩ 1 1 [.string (R.str hh.name), .slice sa (R.sorted hh.rules).length sc] rfl rfl ?c1 ?c2 (by decide) ?c3 ?c4 ?c5 (wq.heap.size + 1) (by simp) ?_))
                        case c1 => exact cells_new _ #[_, _] _ _ (by simp)
                        case c2 => exact host_one HRq.out
                        case c3 => unfold maxLen; omega
                        case c4 => omega
                        case c5 => simp
                        intro g2 cap2 w2 hown2 hgrow2 _ _
                        have HO2 : Hid (w2.ownsRow wq.heap.size 119 2 (.slice (some ⟨g2, 0, none⟩) 1 cap2) 1 [.string (R.str hh.name), .slice sa (R.sorted hh.rules).length sc]) := hown2
                        have gA := World.grownBy_alloc wq (.cells #[.string (R.str hh.name), .slice sa (R.sorted hh.rules).length sc] 119) none
                        have HA3 : Hid (All2 (HostVal w2) ([[.string (R.str hh.name), .slice sa (R.sorted hh.rules).length sc]] : List (List Value)) (R.sortH (hs.take (0 + 1)))) := by
                          rw [HS.out]; unfold R.insH
                          rw [List.length_eq_zero_iff.1 hso]
                          exact .cons ((HRq.out.keep gA (safe_none _ _)).keep hgrow2 (safe_none _ _)) .nil
                        have HO3 : Hid (w2.ownsRow w.heap.size 119 2 (.slice (some ⟨g2, 0, none⟩) 1 cap2) (0 + 1) ([[.string (R.str hh.name), .slice sa (R.sorted hh.rules).length sc]] : List (List Value)).flatten) := row_base hown2 zq
                        have hg23 : wq.grownBy w2 none := grown_of_below ((((Below.refl wq.heap.size wq).alloc (Nat.le_refl _) _).grown hgrow2 (by simp) (fun k hk => by cases hk)))
                        have HB3 : Hid (wo.grownBy w2 none) := grown_trans HZq.out hg23
                        have HI3 : Hid (RInv w2 rb g cap ts st (.slice (some ⟨gh, 0, none⟩) hs.length hc)) := RInv.keep HIq.out hg23
                        clear hown2 hgrow2 gA hg23
                        go_wp2_with (at_builtin; refine wpList_append_own_none rfl _ _ 67 rfl (wq.heap.size) 119 i0 2 Tryz.underlying67 hi _ _ _ rfl HO2.out rfl ?_)
                        go_roundw
                        case rel => exact ⟨0 + 1, _, by omega, by go_num, HO3, HA3, HI3, HB3⟩
                        case measure => simp [intOf]; omega
                      · simp only [Value.slice.injEq] at hsl
                        obtain ⟨rfl, _, rfl⟩ := hsl
                        go_wp2_with fail
                        go_quiet (fail)
                        have hGq := grown_trans HZr.out (grown_drewN wr nq)
                        have HOq : Hid _ := own_away HOz.out (grown_drewN wr nq) (fun k hk c => by cases c)
                        have HAq : Hid (All2 (HostVal (wr.drewN nq)) cs out) := HAc.out.map fun a b hab => hab.keep hGq (safe_none _ _)
                        have HIq : Hid (RInv (wr.drewN nq) rb g cap ts st (.slice (some ⟨gh, 0, none⟩) hs.length hc)) := RInv.keep HIc.out hGq
                        have HZq : Hid (wo.grownBy (wr.drewN nq) none) := grown_trans HZc.out hGq
                        have HNq : Hid ((wr.drewN nq).heap[b8]? = some (.cells #[.string (R.str hh.name), .slice sa (R.sorted hh.rules).length sc] 119)) := keep_block HN8.out hGq (by simp)
                        have HR8q : Hid (RulesRow (wr.drewN nq) (.slice sa (R.sorted hh.rules).length sc) (R.sorted hh.rules)) := RulesRow.keep HR8.out hGq (safe_none _ _)
                        have zq : w.heap.size ≤ (wr.drewN nq).heap.size := Nat.le_trans zc hGq.size
                        clear hGq
                        generalize wr.drewN nq = wq at *
                        by_cases hkc : k < oc
                        · have H0 : Hid (wq.cell? ⟨b8, 0, none⟩ = some (.string (R.str hh.name))) := cell_of_block HNq.out
                          have H1 : Hid (wq.cell? ⟨b8, 1, none⟩ = some (.slice sa (R.sorted hh.rules).length sc)) := cell_of_block HNq.out
                          have HRq : Hid (HostVal wq [.string (R.str hh.name), .slice sa (R.sorted hh.rules).length sc] ⟨hh.name, R.sorted hh.rules⟩) := ⟨_, rfl, HR8q.out⟩
                          have hb8q : b8 < wq.heap.size := block_lt HNq.out
                          have HW : Hid (∀ j u, (cs.flatten)[j]? = some u → wq.cell? ⟨go, j, none⟩ = some u) := by
                            intro j u hu
                            have hjl := (List.getElem?_eq_some_iff.1 hu).1
                            rw [HOq.out.1] at hjl
                            rw [World.ownsRow.cellAt HOq.out j hjl]; exact hu
                          have hcap := own_cap HOq.out
                          unfold maxLen at hcap
                          obtain ⟨hcap1, hcap2⟩ := hcap
                          have HFl : Hid (cs.flatten.length = k * 2) := HOq.out.1
                          have HOne : Hid (∀ u ∈ cs.flatten, u.oneCell' = true) := hosts_one HAq.out
                          go_wp2_with (at_builtin; refine wpList_append_own _ rfl _ _ 67 rfl (wq.heap.size) 119 i0 _ 2 40 Tryz.underlying67 hi hz0 hz1 hz2 rfl (by decide) _ _ _ rfl (World.ownsRow_nil _ _ _ _) ⟨go, 0, none⟩ k oc (cs.flatten.take (k * 2)) rfl ?a1 ?a2 ?a3 ?a4 ?a5 ?a6 ?_)
                          case a1 => rw [List.length_take, HFl.out]; omega
                          case a2 =>
                            intro j u hu
                            rw [add_off]
                            rw [List.getElem?_take] at hu
                            split at hu
                            · exact HW.out j u hu
                            · cases hu
                          case a3 => exact fun u hu => HOne.out u (List.mem_of_mem_take hu)
                          case a4 => unfold maxLen; omega
                          case a5 => omega
                          case a6 => exact Nat.le_refl _
                          intro v1 w1 hown1 hgrow1 _
                          obtain ⟨n1a, n1c, rfl⟩ := len_row hown1
                          have g1 : wq.grownBy w1 none := hgrow1
                          have HO1 : Hid _ := hown1
                          have HQ1 : Hid _ := own_away HOq.out hgrow1 (fun k hk c => by cases c)
                          have z1 : wq.heap.size ≤ w1.heap.size := hgrow1.size
                          have d0 := g1.cell H0.out (by simp)
                          have d1 := g1.cell H1.out (by simp)
                          have HG1 : Hid _ := g1
                          clear hown1 hgrow1 g1
                          go_wp2_with (at_builtin; refine wpList_append_lies _ rfl _ _ 67 rfl (wq.heap.size) 119 i0 _ 2 40 Tryz.underlying67 hi hz0 hz1 hz2 rfl (by decide) _ _ _ rfl (World.ownsRow.alloc HO1.out _) ⟨w1.heap.size, 0, none⟩ 1 1 [.string (R.str hh.name), .slice sa (R.sorted hh.rules).length sc] rfl rfl ?c1 ?c2 (by decide) ?c3 ?c4 ?c5 (w1.heap.size + 1) (by simp) ?_)
                          case c1 => exact cells_new _ #[_, _] _ _ (by simp)
                          case c2 => exact host_one HRq.out
                          case c3 => unfold maxLen; omega
                          case c4 => omega
                          case c5 => simp; omega
                          intro g2 cap2 w2 hown2 hgrow2 _ _
                          have HO2 : Hid _ := hown2
                          have HQ2 : Hid _ := own_away (World.ownsRow.alloc HQ1.out _) hgrow2 (fun k hk c => by have h1 := (World.ownsRow.lt HOq.out k hk).2; have h2 := (World.ownsRow.lt HO1.out k c).1; omega)
                          have z2 : w1.heap.size + 1 ≤ w2.heap.size := by have h := hgrow2.size; simpa using h
                          have HG2 : Hid _ := hgrow2
                          clear hown2 hgrow2
                          have HW2 : Hid (∀ j u, (cs.flatten)[j]? = some u → w2.cell? ⟨go, j, none⟩ = some u) := by
                            intro j u hu
                            have hjl := (List.getElem?_eq_some_iff.1 hu).1
                            rw [HOq.out.1] at hjl
                            rw [World.ownsRow.cellAt HQ2.out j hjl]; exact hu
                          go_wp2_with (at_builtin; refine wpList_append_own _ rfl _ _ 67 rfl (wq.heap.size) 119 i0 _ 2 40 Tryz.underlying67 hi hz0 hz1 hz2 rfl (by decide) _ _ _ rfl HO2.out ⟨go, k * 2, none⟩ 0 (oc - k) [] rfl ?b1 ?b2 ?b3 ?b4 ?b5 ?b6 ?_)
                          case b1 => rfl
                          case b2 => intro j u hu; simp at hu
                          case b3 => exact fun u hu => by simp at hu
                          case b4 => unfold maxLen; omega
                          case b5 => omega
                          case b6 => omega
                          intro v3 w3 hown3 hgrow3 _
                          have gA := World.grownBy_alloc w1 (.cells #[.string (R.str hh.name), .slice sa (R.sorted hh.rules).length sc] 119) none
                          have sA2 : Safe (w1.alloc (.cells #[.string (R.str hh.name), .slice sa (R.sorted hh.rules).length sc] 119)) (Value.slice n1a k n1c).ownBlock rtags := safe_row (World.ownsRow.alloc HO1.out _) (by decide)
                          have sA3 : Safe w2 (Value.slice (some ⟨g2, 0, none⟩) (k + 1) cap2).ownBlock rtags := safe_row HO2.out (by decide)
                          have kp : ∀ a b, HostVal wq a b → HostVal w3 a b := fun a b hab => (((hab.keep HG1.out (safe_none _ _)).keep gA (safe_none _ _)).keep HG2.out sA2).keep hgrow3 sA3
                          have HA3 : Hid (All2 (HostVal w3) (cs.take k ++ ([[.string (R.str hh.name), .slice sa (R.sorted hh.rules).length sc]] : List (List Value)) ++ cs.drop k) (R.sortH (hs.take (k + 1)))) := by
                            rw [HS.out]; unfold R.insH; rw [HIk.out]
                            exact ((HAq.out.take k).append (.cons HRq.out .nil) |>.append (HAq.out.drop k)).map kp
                          have HO3 : Hid (w3.ownsRow w.heap.size 119 2 v3 (k + 1) (cs.take k ++ ([[.string (R.str hh.name), .slice sa (R.sorted hh.rules).length sc]] : List (List Value)) ++ cs.drop k).flatten) := by
                            rw [List.flatten_append, List.flatten_append, flat_takeH HAq.out, flat_dropH HAq.out, show k + 1 = k + 1 + 0 by omega, show ([[.string (R.str hh.name), .slice sa (R.sorted hh.rules).length sc]] : List (List Value)).flatten = [.string (R.str hh.name), .slice sa (R.sorted hh.rules).length sc] from rfl, List.drop_of_length_le (l := cs.flatten) (by rw [HFl.out]; omega), List.append_assoc]
                            exact row_base hown3 zq
                          have hg23 : wq.grownBy w3 none := by
                            refine grown_of_below ?_
                            have b1 := below_of_grown HG1.out
                            have b2 := (b1.alloc (by omega) (.cells #[.string (R.str hh.name), .slice sa (R.sorted hh.rules).length sc] 119)).grown HG2.out (by simp; omega) (fun k hk => by have := (World.ownsRow.lt HO1.out k hk).1; omega)
                            exact b2.grown hgrow3 (by omega) (fun k hk => by have := (World.ownsRow.lt HO2.out k hk).1; omega)
                          have HB3 : Hid (wo.grownBy w3 none) := grown_trans HZq.out hg23
                          have HI3 : Hid (RInv w3 rb g cap ts st (.slice (some ⟨gh, 0, none⟩) hs.length hc)) := RInv.keep HIq.out hg23
                          clear hown3 hgrow3 kp sA2 sA3 gA hg23
                          obtain ⟨n3a, n3c, rfl⟩ := len_row HO3.out
                          go_wp2
                          go_roundw
                          case rel => exact ⟨k + 1, _, by omega, by go_num, HO3, HA3, HI3, HB3⟩
                          case measure => simp [intOf]; omega
                        · obtain rfl : oc = k := by have h := (own_cap HOq.out).1; omega
                          have H0 : Hid (wq.cell? ⟨b8, 0, none⟩ = some (.string (R.str hh.name))) := cell_of_block HNq.out
                          have H1 : Hid (wq.cell? ⟨b8, 1, none⟩ = some (.slice sa (R.sorted hh.rules).length sc)) := cell_of_block HNq.out
                          have HRq : Hid (HostVal wq [.string (R.str hh.name), .slice sa (R.sorted hh.rules).length sc] ⟨hh.name, R.sorted hh.rules⟩) := ⟨_, rfl, HR8q.out⟩
                          have hb8q : b8 < wq.heap.size := block_lt HNq.out
                          have HW : Hid (∀ j u, (cs.flatten)[j]? = some u → wq.cell? ⟨go, j, none⟩ = some u) := by
                            intro j u hu
                            have hjl := (List.getElem?_eq_some_iff.1 hu).1
                            rw [HOq.out.1] at hjl
                            rw [World.ownsRow.cellAt HOq.out j hjl]; exact hu
                          have hcap := own_cap HOq.out
                          unfold maxLen at hcap
                          obtain ⟨hcap1, hcap2⟩ := hcap
                          have HFl : Hid (cs.flatten.length = oc * 2) := HOq.out.1
                          have HOne : Hid (∀ u ∈ cs.flatten, u.oneCell' = true) := hosts_one HAq.out
                          go_wp2_with (at_builtin; refine wpList_append_own _ rfl _ _ 67 rfl (wq.heap.size) 119 i0 _ 2 40 Tryz.underlying67 hi hz0 hz1 hz2 rfl (by decide) _ _ _ rfl (World.ownsRow_nil _ _ _ _) ⟨go, 0, none⟩ oc oc (cs.flatten.take (oc * 2)) rfl ?a1 ?a2 ?a3 ?a4 ?a5 ?a6 ?_)
                          case a1 => rw [List.length_take, HFl.out]; omega
                          case a2 =>
                            intro j u hu
                            rw [add_off]
                            rw [List.getElem?_take] at hu
                            split at hu
                            · exact HW.out j u hu
                            · cases hu
                          case a3 => exact fun u hu => HOne.out u (List.mem_of_mem_take hu)
                          case a4 => unfold maxLen; omega
                          case a5 => omega
                          case a6 => exact Nat.le_refl _
                          intro v1 w1 hown1 hgrow1 _
                          obtain ⟨n1a, n1c, rfl⟩ := len_row hown1
                          have g1 : wq.grownBy w1 none := hgrow1
                          have HO1 : Hid _ := hown1
                          have HQ1 : Hid _ := own_away HOq.out hgrow1 (fun oc hk c => by cases c)
                          have z1 : wq.heap.size ≤ w1.heap.size := hgrow1.size
                          have d0 := g1.cell H0.out (by simp)
                          have d1 := g1.cell H1.out (by simp)
                          have HG1 : Hid _ := g1
                          clear hown1 hgrow1 g1
                          go_wp2_with (at_builtin; refine wpList_append_lies _ rfl _ _ 67 rfl (wq.heap.size) 119 i0 _ 2 40 Tryz.underlying67 hi hz0 hz1 hz2 rfl (by decide) _ _ _ rfl (World.ownsRow.alloc HO1.out _) ⟨w1.heap.size, 0, none⟩ 1 1 [.string (R.str hh.name), .slice sa (R.sorted hh.rules).length sc] rfl rfl ?c1 ?c2 (by decide) ?c3 ?c4 ?c5 (w1.heap.size + 1) (by simp) ?_)
                          case c1 => exact cells_new _ #[_, _] _ _ (by simp)
                          case c2 => exact host_one HRq.out
                          case c3 => unfold maxLen; omega
                          case c4 => omega
                          case c5 => simp; omega
                          intro g2 cap2 w2 hown2 hgrow2 _ _
                          have HO2 : Hid _ := hown2
                          have HQ2 : Hid _ := own_away (World.ownsRow.alloc HQ1.out _) hgrow2 (fun oc hk c => by have h1 := (World.ownsRow.lt HOq.out oc hk).2; have h2 := (World.ownsRow.lt HO1.out oc c).1; omega)
                          have z2 : w1.heap.size + 1 ≤ w2.heap.size := by have h := hgrow2.size; simpa using h
                          have HG2 : Hid _ := hgrow2
                          clear hown2 hgrow2
                          have HW2 : Hid (∀ j u, (cs.flatten)[j]? = some u → w2.cell? ⟨go, j, none⟩ = some u) := by
                            intro j u hu
                            have hjl := (List.getElem?_eq_some_iff.1 hu).1
                            rw [HOq.out.1] at hjl
                            rw [World.ownsRow.cellAt HQ2.out j hjl]; exact hu
                          go_wp2_with (at_builtin; refine wpList_append_own _ rfl _ _ 67 rfl (wq.heap.size) 119 i0 _ 2 40 Tryz.underlying67 hi hz0 hz1 hz2 rfl (by decide) _ _ _ rfl HO2.out ⟨go, 0, none⟩ 0 0 [] rfl ?b1 ?b2 ?b3 ?b4 ?b5 ?b6 ?_)
                          case b1 => rfl
                          case b2 => intro j u hu; simp at hu
                          case b3 => exact fun u hu => by simp at hu
                          case b4 => unfold maxLen; omega
                          case b5 => omega
                          case b6 => omega
                          intro v3 w3 hown3 hgrow3 _
                          have gA := World.grownBy_alloc w1 (.cells #[.string (R.str hh.name), .slice sa (R.sorted hh.rules).length sc] 119) none
                          have sA2 : Safe (w1.alloc (.cells #[.string (R.str hh.name), .slice sa (R.sorted hh.rules).length sc] 119)) (Value.slice n1a oc n1c).ownBlock rtags := safe_row (World.ownsRow.alloc HO1.out _) (by decide)
                          have sA3 : Safe w2 (Value.slice (some ⟨g2, 0, none⟩) (oc + 1) cap2).ownBlock rtags := safe_row HO2.out (by decide)
                          have kp : ∀ a b, HostVal wq a b → HostVal w3 a b := fun a b hab => (((hab.keep HG1.out (safe_none _ _)).keep gA (safe_none _ _)).keep HG2.out sA2).keep hgrow3 sA3
                          have HA3 : Hid (All2 (HostVal w3) (cs.take oc ++ ([[.string (R.str hh.name), .slice sa (R.sorted hh.rules).length sc]] : List (List Value)) ++ cs.drop oc) (R.sortH (hs.take (oc + 1)))) := by
                            rw [HS.out]; unfold R.insH; rw [HIk.out]
                            exact ((HAq.out.take oc).append (.cons HRq.out .nil) |>.append (HAq.out.drop oc)).map kp
                          have HO3 : Hid (w3.ownsRow w.heap.size 119 2 v3 (oc + 1) (cs.take oc ++ ([[.string (R.str hh.name), .slice sa (R.sorted hh.rules).length sc]] : List (List Value)) ++ cs.drop oc).flatten) := by
                            rw [List.flatten_append, List.flatten_append, flat_takeH HAq.out, flat_dropH HAq.out, show oc + 1 = oc + 1 + 0 by omega, show ([[.string (R.str hh.name), .slice sa (R.sorted hh.rules).length sc]] : List (List Value)).flatten = [.string (R.str hh.name), .slice sa (R.sorted hh.rules).length sc] from rfl, List.drop_of_length_le (l := cs.flatten) (by rw [HFl.out]; omega), List.append_assoc]
                            exact row_base hown3 zq
                          have hg23 : wq.grownBy w3 none := by
                            refine grown_of_below ?_
                            have b1 := below_of_grown HG1.out
                            have b2 := (b1.alloc (by omega) (.cells #[.string (R.str hh.name), .slice sa (R.sorted hh.rules).length sc] 119)).grown HG2.out (by simp; omega) (fun oc hk => by have := (World.ownsRow.lt HO1.out oc hk).1; omega)
                            exact b2.grown hgrow3 (by omega) (fun oc hk => by have := (World.ownsRow.lt HO2.out oc hk).1; omega)
                          have HB3 : Hid (wo.grownBy w3 none) := grown_trans HZq.out hg23
                          have HI3 : Hid (RInv w3 rb g cap ts st (.slice (some ⟨gh, 0, none⟩) hs.length hc)) := RInv.keep HIq.out hg23
                          clear hown3 hgrow3 kp sA2 sA3 gA hg23
                          obtain ⟨n3a, n3c, rfl⟩ := len_row HO3.out
                          go_wp2
                          go_roundw
                          case rel => exact ⟨oc + 1, _, by omega, by go_num, HO3, HA3, HI3, HB3⟩
                          case measure => simp [intOf]; omega
              · go_wp2
                go_ret3
                rw [show i = hs.length by omega, List.take_of_length_le (Nat.le_refl _)] at HA
                refine ⟨_, by rw [HEr.out, HE0.out]; rfl, HB2.out.trans ((below_of_grown HZ.out).mono HB2.out.size), fun _ => ?_⟩
                rw [HQ1.out]
                refine ⟨cs, ?_, HA.out⟩
                rw [sortH_len, show hs.length = i by omega]
                exact HO.out
          · rw [if_neg hE] at HEr
            have hE2 : (st.E != 0) = true := by rw [bne_iff_ne]; exact hE
            have HNE : Hid (st.E ≠ 0) := hE
            clear hE
            go_wp2
            go_region
            all_goals
              go_wp2
              go_ret3
              exact ⟨_, by rw [HEr.out]; rfl, HB2.out.drew, fun h => absurd h (by rw [HEr.out]; exact HNE.out)⟩

end Go.Proofs.YtfocdefchbnkpaaGreatDoor
