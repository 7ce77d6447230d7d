/- The writer of a policy: a list of targets. -/
import Derived.Test.YtfocdefchbnkpaaGreatDoorProZ3
import Derived.Test.YtfocdefchbnkpaaGreatDoorEqE
import Derived.Deep.AppendLies
namespace Go.Proofs.YtfocdefchbnkpaaGreatDoor
open Go.RowKit

/-- The library's powers of ten lie where they were laid. -/
def GT (w : World) : Prop := Lib.TabIs Tryz.prog w "internal/strconv.uint64pow10" .u64 Lib.pow10Tab
theorem GT.block {w : World} (h : GT w) : ∃ g, (Tryz.prog).globalNamed "internal/strconv.uint64pow10" = some g ∧ g < w.heap.size := by
  unfold GT Lib.TabIs World.var? at h
  cases hg : (Tryz.prog).globalNamed "internal/strconv.uint64pow10" with
  | none => rw [hg] at h; cases h
  | some g =>
    refine ⟨g, rfl, ?_⟩
    rw [hg] at h
    simp only [Option.bind_some] at h
    by_cases hlt : g < w.heap.size
    · exact hlt
    · rw [Array.getElem?_eq_none (by omega)] at h; cases h
theorem GT.same {w w' : World} (h : GT w) (hb : ∀ g, (Tryz.prog).globalNamed "internal/strconv.uint64pow10" = some g → w'.heap[g]? = w.heap[g]?) : GT w' := by
  unfold GT Lib.TabIs World.var? at *
  cases hg : (Tryz.prog).globalNamed "internal/strconv.uint64pow10" with
  | none => rw [hg] at h; cases h
  | some g =>
    rw [hg] at h
    simp only [Option.bind_some] at h ⊢
    rw [hb g hg]; exact h
theorem GT.grown {w w' : World} (h : GT w) (hg : w.grownBy w' none) : GT w' := h.same fun g e => by
  obtain ⟨g', e', hl⟩ := h.block
  obtain rfl := Option.some.inj (e.symm.trans e')
  exact hg.block g hl (by simp)
/-- The powers of ten lie below B. -/
def GTB (B : Nat) : Prop := ∀ g, (Tryz.prog).globalNamed "internal/strconv.uint64pow10" = some g → g < B
theorem GT.bound {w : World} (h : GT w) : GTB w.heap.size := fun g e => by
  obtain ⟨g', e', hl⟩ := h.block
  obtain rfl := Option.some.inj (e.symm.trans e')
  exact hl
theorem GT.kept {w w' : World} {B : Nat} {l : List TypeId} (h : GT w) (hk : Kept B l w w') (hB : GTB B) : GT w' := h.same fun g e => hk.block g (h.bound g e) (Or.inl (hB g e))

theorem grown_sortGrow (w : World) (k : Nat) (os : Array Obj) : w.grownBy (Sort.grow (w.drewN k) os) none := by
  refine grown_trans (grown_drewN' w k) ?_
  generalize w.drewN k = u
  exact ⟨rfl, rfl, rfl, by simp [Sort.grow], fun j hj _ => by simp [Sort.grow, Array.getElem?_append_left hj]⟩
theorem pro_itoa {w : World} (hT : GT w) (n : Int) (hn : 0 ≤ n ∧ n ≤ 99999) : Calls Tryz.prog 159 #[.int .i64 n] w fun e w' => e = .returned (.string (R.str (R.decI n))) ∧ w.grownBy w' none := by
  refine (Tryz.strconv_Itoa n (by omega) (by omega) w hT).mono ?_
  rintro e w' ⟨rfl, k, os, rfl⟩
  refine ⟨?_, grown_sortGrow w k os⟩
  rw [itoa_dec n hn.1]; rfl

theorem tgs_len (l : List (List UInt8 × Int)) (hs : ∀ t ∈ l, t.1.length ≤ 3000 ∧ 0 ≤ t.2 ∧ t.2 ≤ 99999) : (R.lnTgs l).length ≤ l.length * 3200 := by
  have ht : ∀ t ∈ l, (R.lnTg t).length ≤ 3100 := fun t ht => by
    have h := hs t ht
    have h5 := R.decI_len t.2 h.2
    unfold R.lnTg; simp only [List.length_append, R.q_len, List.length_cons, List.length_nil]; omega
  cases l with
  | nil => simp [R.lnTgs]
  | cons t l =>
    have h3 := ht t (by simp)
    have h4 : (l.map fun u => [44, 32] ++ R.lnTg u).flatten.length ≤ l.length * 3200 := R.flat_len _ _ _ (fun u hu => by
      have := ht u (by simp [hu]); simp only [List.length_append, List.length_cons, List.length_nil]; omega)
    unfold R.lnTgs
    rw [List.length_append, List.length_cons, Nat.succ_mul]; omega
theorem strCells_snoc (l : List (List UInt8)) (x : List UInt8) : R.strCells (l ++ [x]) = R.strCells l ++ [.string (R.str x)] := by simp [R.strCells]
theorem str_add_tg (x : List UInt8) (n : Int) : R.str (R.q x) ++ (⟨#[32]⟩ : ByteArray) ++ R.str (R.decI n) = R.str (R.lnTg (x, n)) := by
  apply ByteArray.ext
  simp [R.str, R.lnTg]

set_option maxRecDepth 100000 in
set_option maxHeartbeats 4000000 in
theorem pro_listed {w : World} (l : List (List UInt8 × Int)) (v : Value) (hrow : w.ownsRow 0 285 2 v l.length (R.tgCells l)) (hn : l.length ≤ 4000)
    (hs : ∀ t ∈ l, t.1.length ≤ 3000 ∧ 0 ≤ t.2 ∧ t.2 ≤ 99999) (hT : GT w) :
    Calls Tryz.prog 161 #[v] w fun e w' => e = .returned (.string (R.str (R.lnTgs l))) ∧ w.grownBy w' none := by
  obtain ⟨i0, hi, hz0, hz1, hz2⟩ := info_parts info_str
  obtain ⟨va, vc, rfl⟩ := len_row hrow
  have HR : Hid (w.ownsRow 0 285 2 (.slice va l.length vc) l.length (R.tgCells l)) := hrow
  have HS : Hid (∀ t ∈ l, t.1.length ≤ 3000 ∧ 0 ≤ t.2 ∧ t.2 ≤ 99999) := hs
  have HT : Hid (GT w) := hT
  have HJn : Hid (∀ W g cap, w.grownBy W none → W.ownsRow w.heap.size 9 1 (.slice (some ⟨g, 0, none⟩) l.length cap) l.length (R.strCells (l.map R.lnTg)) → Calls Tryz.prog 220 #[.slice (some ⟨g, 0, none⟩) l.length cap, .string ⟨#[44, 32]⟩] W fun e w' => e = .returned (.string (R.str (R.lnTgs l))) ∧ w.grownBy w' none) := fun W g cap hW ho => by
    have e1 : ((l.map R.lnTg).map R.str).map (fun b => b.data.toList) = l.map R.lnTg := by
      rw [List.map_map]
      have : ((fun b : ByteArray => b.data.toList) ∘ R.str) = id := by funext x; exact R.str_toList x
      rw [this, List.map_id]
    have hb := (World.ownsRow.lt ho g rfl).2
    have hc : l.length ≤ cap := by
      rcases ho.2 with ⟨h, _⟩ | ⟨g', cap', cur, h, _, _, h3, _⟩
      · cases h
      · cases h; exact h3
    have h := Tryz.strings_Join g 0 cap ((l.map R.lnTg).map R.str) ⟨#[44, 32]⟩ W (fun j x hx => by
      have hj : j < l.length := by have := (List.getElem?_eq_some_iff.1 hx).1; simpa using this
      rw [Nat.zero_add, World.ownsRow.cellAt ho j (by omega)]
      unfold R.strCells
      rw [List.getElem?_map] at hx ⊢
      cases hq : (l.map R.lnTg)[j]? with
      | none => rw [hq] at hx; cases hx
      | some y => rw [hq] at hx; simp at hx ⊢; exact hx) hb (by simp; omega) (by simpa using hc) (by
        rw [e1]; show (Lib.join (l.map R.lnTg) [44, 32]).length ≤ _; rw [join_tgs]; have := tgs_len l hs; omega)
    rw [e1, show (⟨#[44, 32]⟩ : ByteArray).data.toList = [44, 32] from rfl, join_tgs, List.length_map, List.length_map] at h
    exact Calls.mono h fun e w' ⟨h1, h2⟩ => ⟨h1, grown_trans hW (grown_of_below h2)⟩
  clear hrow hs hT
  go_enter Tryz.func161, Tryz.ntmps161
  go_wp2_with (at_make; refine wpList_make_own _ rfl _ _ 22 rfl w.heap.size 9 i0 (.string ⟨#[]⟩) 1 Tryz.underlying22 hi hz0 hz1 _ _ _ l.length rfl rfl (by omega) ?b2 ?b3 (Nat.le_refl _) ?_)
  case b2 => rw [hz2]; omega
  case b3 => unfold maxLen; omega
  intro w0 hown0 hgrow0
  have HO0 : Hid (w0.ownsRow w.heap.size 9 1 (.slice (some ⟨w.heap.size, 0, none⟩) 0 l.length) 0 (R.strCells ((l.take 0).map R.lnTg))) := hown0
  have HG0 : Hid _ := hgrow0
  clear hown0 hgrow0
  go_wp2
  go_loopw [3, 11] (fun sv iv wr => ∃ k : Nat, k ≤ l.length ∧ iv = .int .i64 k ∧ (∃ g cap, sv = .slice (some ⟨g, 0, none⟩) k cap ∧ Hid (wr.ownsRow w.heap.size 9 1 (.slice (some ⟨g, 0, none⟩) k cap) k (R.strCells ((l.take k).map R.lnTg)))) ∧ Hid (w.grownBy wr none)) (fun _ iv _ => l.length - (intOf iv).toNat)
  case atStart => exact ⟨0, Nat.zero_le _, rfl, ⟨_, _, rfl, HO0⟩, HG0⟩
  case round =>
    obtain ⟨k, hk, rfl, ⟨g, cap, rfl, HO⟩, HG⟩ := hrel
    clear HO0 HG0
    by_cases hlt : k < l.length
    · have hkI : (k : Int) < l.length := by omega
      obtain ⟨gt, gtc, hgt, _, hgl⟩ := World.ownsRow.form HR.out (by omega)
      simp only [Value.slice.injEq] at hgt
      obtain ⟨rfl, _, rfl⟩ := hgt
      have d0 : wr.cell? ⟨gt, k * 2, none⟩ = some (.string (R.str l[k].1)) := row_get (fun t : List UInt8 × Int => [.string (R.str t.1), .int .i64 t.2]) 2 (fun _ => rfl) HR.out HG.out k 0 hlt (by omega) rfl
      have d1 : wr.cell? ⟨gt, k * 2 + 1, none⟩ = some (.int .i64 l[k].2) := row_get (fun t : List UInt8 × Int => [.string (R.str t.1), .int .i64 t.2]) 2 (fun _ => rfl) HR.out HG.out k 1 hlt (by omega) rfl
      have hsk := HS.out l[k] (List.getElem_mem hlt)
      have HEq : Hid (R.strCells ((l.take (k + 1)).map R.lnTg) = R.strCells ((l.take k).map R.lnTg) ++ [.string (R.str (R.lnTg l[k]))]) := by
        show _ = _
        rw [List.take_succ_eq_append_getElem hlt, List.map_append, List.map_singleton, strCells_snoc]
      generalize l[k] = t at *
      obtain ⟨x, n⟩ := t
      simp only at d0 d1 hsk
      have HN : Hid (0 ≤ n ∧ n ≤ 99999) := hsk.2
      have zq : (R.str (R.q x)).size ≤ 3002 := by rw [R.str_size, R.q_len]; omega
      have zd : (R.str (R.decI n)).size ≤ 5 := by rw [R.str_size]; exact R.decI_len _ hsk.2
      have hA1 : ¬ (9223372036854775807 < (R.str (R.q x)).size + 1) := by omega
      have hA2 : ¬ (9223372036854775807 < (R.str (R.q x)).size + 1 + (R.str (R.decI n)).size) := by omega
      have HQ : Hid (∀ W, Calls Tryz.prog 105 #[.string (R.str x)] W fun e w' => e = .returned (.string (R.str (R.q x))) ∧ w' = W) := fun W => pro_quoted x W hsk.1
      have HI : Hid (∀ W, w.grownBy W none → Calls Tryz.prog 159 #[.int .i64 n] W fun e w' => e = .returned (.string (R.str (R.decI n))) ∧ W.grownBy w' none) := fun W hW => pro_itoa (HT.out.grown hW) n HN.out
      have HBX : Hid ((wr.alloc (.cells #[.string (R.str x), .int .i64 n] 285)).heap[wr.heap.size]? = some (.cells #[.string (R.str x), .int .i64 n] 285)) := heap_alloc_new _ _
      have HGX : Hid (wr.grownBy (wr.alloc (.cells #[.string (R.str x), .int .i64 n] 285)) none) := World.grownBy_alloc _ _ _
      have hsz : w.heap.size ≤ wr.heap.size := HG.out.size
      have hgr : g < wr.heap.size := (World.ownsRow.lt HO.out g rfl).2
      clear hsk HS HJn
      have HOx : Hid ((wr.alloc (.cells #[.string (R.str x), .int .i64 n] 285)).ownsRow w.heap.size 9 1 (.slice (some ⟨g, 0, none⟩) k cap) k (R.strCells ((l.take k).map R.lnTg))) := own_away HO.out HGX.out (fun k hk c => by cases c)
      have HGw : Hid (w.grownBy (wr.alloc (.cells #[.string (R.str x), .int .i64 n] 285)) none) := grown_trans HG.out HGX.out
      have b0 : (wr.alloc (.cells #[.string (R.str x), .int .i64 n] 285)).cell? ⟨wr.heap.size, 0, none⟩ = some (.string (R.str x)) := cell_of_block HBX.out
      have b1 : (wr.alloc (.cells #[.string (R.str x), .int .i64 n] 285)).cell? ⟨wr.heap.size, 1, none⟩ = some (.int .i64 n) := cell_of_block HBX.out
      have bl : wr.heap.size < (wr.alloc (.cells #[.string (R.str x), .int .i64 n] 285)).heap.size := block_lt HBX.out
      have H1D : Hid (∀ u ∈ ([.string (R.str (R.q x) ++ ⟨#[32]⟩ ++ R.str (R.decI n))] : List Value), u.oneCell' = true) := by
        intro u hu
        simp only [List.mem_cons, List.mem_nil_iff, or_false] at hu
        subst hu; rfl
      have HLD : Hid (k + 1 ≤ maxLen) := by show _ ≤ _; unfold maxLen; omega
      have HAdd : Hid (R.str (R.q x) ++ (⟨#[32]⟩ : ByteArray) ++ R.str (R.decI n) = R.str (R.lnTg (x, n))) := str_add_tg x n
      go_wp2
      generalize wr.alloc (.cells #[.string (R.str x), .int .i64 n] 285) = wx at *
      clear d0 d1 HO HG HR HGX
      go_region_law (first | (refine step_append_lies _ rfl (.tmp 15) (.tmp 24) 22 rfl w.heap.size 9 i0 _ 1 16 Tryz.underlying22 hi hz0 hz1 hz2 rfl (by decide) _ _ _ (by simp [Act.eval]) (World.ownsRow.alloc HO_N.out _) ⟨wN.heap.size, 0, none⟩ 1 1 [.string (R.str (R.q x) ++ ⟨#[32]⟩ ++ R.str (R.decI n))] (by simp [Act.eval]) rfl HND.out H1D.out (by decide) HLD.out (by omega) HBD.out (wN.heap.size + 1) HZD.out ?_; intro g9 cap9 w9 hown9 hgrow9 hat9 hlt9; have far9 : ∀ j, (Value.slice (some ⟨g, 0, none⟩) k cap).ownBlock = some j → w.heap.size ≤ j := fun j hj => (World.ownsRow.lt HO_N.out j hj).1; have C9 : Hid (w.grownBy w9 none) := grown_far (grown_trans GwN.out (World.grownBy_alloc _ _ _)) hgrow9 far9; have HO_9 : Hid (w9.ownsRow w.heap.size 9 1 (.slice (some ⟨g9, 0, none⟩) (k + 1) cap9) (k + 1) (R.strCells ((l.take (k + 1)).map R.lnTg))) := by { show World.ownsRow _ _ _ _ _ _ _; rw [HEq.out, ← HAdd.out]; exact hown9 }; clear hown9 hgrow9 far9) | (go_simp; go_at_call 159; refine (HI.out _ (grown_trans HGw.out (grown_drew wx))).mono ?_; rintro e wN ⟨rfl, hgN⟩; have GN : wx.grownBy wN none := grown_trans (grown_drew wx) hgN; have GwN : Hid (w.grownBy wN none) := grown_trans HGw.out GN; have HO_N : Hid (wN.ownsRow w.heap.size 9 1 (.slice (some ⟨g, 0, none⟩) k cap) k (R.strCells ((l.take k).map R.lnTg))) := own_away HOx.out GN (fun k hk c => by cases c); have sN : wx.heap.size ≤ wN.heap.size := GN.size; have HND : Hid (∀ j u, ([.string (R.str (R.q x) ++ ⟨#[32]⟩ ++ R.str (R.decI n))] : List Value)[j]? = some u → (wN.alloc (.cells #[.string (R.str (R.q x) ++ ⟨#[32]⟩ ++ R.str (R.decI n))] 9)).cell? ((⟨wN.heap.size, 0, none⟩ : Addr).add j) = some u) := cells_new wN #[_] _ _ rfl; have HBD : Hid (w.heap.size ≤ (wN.alloc (.cells #[.string (R.str (R.q x) ++ ⟨#[32]⟩ ++ R.str (R.decI n))] 9)).heap.size) := by { show _ ≤ _; rw [show (wN.alloc (.cells #[.string (R.str (R.q x) ++ ⟨#[32]⟩ ++ R.str (R.decI n))] 9)).heap.size = wN.heap.size + 1 from by simp]; omega }; have HZD : Hid ((wN.alloc (.cells #[.string (R.str (R.q x) ++ ⟨#[32]⟩ ++ R.str (R.decI n))] 9)).heap.size = wN.heap.size + 1) := by { show _ = _; simp }; clear hgN GN) | (go_simp; go_at_call 105; refine (HQ.out _).mono ?_; rintro e w' ⟨rfl, rfl⟩))
      all_goals
        go_wp2
        go_roundw
        case rel => exact ⟨k + 1, by omega, by go_num, ⟨g9, cap9, rfl, HO_9⟩, C9⟩
        case measure => simp [intOf]; omega
    · have hkE : k = l.length := by omega
      subst hkE
      have HO2 : Hid (wr.ownsRow w.heap.size 9 1 (.slice (some ⟨g, 0, none⟩) l.length cap) l.length (R.strCells (l.map R.lnTg))) := by
        have h := HO.out
        rw [List.take_length] at h
        exact h
      have HJ2 : Hid (Calls Tryz.prog 220 #[.slice (some ⟨g, 0, none⟩) l.length cap, .string ⟨#[44, 32]⟩] wr fun e w' => e = .returned (.string (R.str (R.lnTgs l))) ∧ w.grownBy w' none) := HJn.out wr g cap HG.out HO2.out
      clear HJn HO HO2 HS HT HR
      go_wp2_with (go_at_call 220; refine HJ2.out.mono ?_; rintro e w2 ⟨rfl, h2⟩)
      go_ret
      exact ⟨rfl, h2⟩
end Go.Proofs.YtfocdefchbnkpaaGreatDoor
