/- The headers that a rule asks for, as the document's own reader reads them. -/
import Derived.Test.YtfocdefchbnkpaaGreatDoorRefG
import Derived.Deep.AppendLies
namespace Go.Proofs.YtfocdefchbnkpaaGreatDoor
open Go.RowKit

theorem own_kept_box {w w' : World} {B b : Nat} {e : TypeId} {size : Nat} {v : Value} {n : Nat} {xs : List Value} (h : w.ownsRow B e size v n xs) (hg : w.grownBy w' (some b)) (hk : ∀ k, v.ownBlock = some k → k ≠ b) : w'.ownsRow B e size v n xs := by
  refine h.kept hg ?_
  cases hv : v.ownBlock with
  | none => exact Or.inl rfl
  | some k => right; simpa using hk k hv
theorem keep_away {w w' : World} {o : Obj} {b : Nat} {row : Option Nat} (h : w.heap[b]? = some o) (hg : w.grownBy w' row) (hr : ∀ k, row = some k → k ≠ b) : w'.heap[b]? = some o := by
  cases row with
  | none => exact keep_block h hg (by simp)
  | some k => exact keep_block h hg (by simpa using fun e => hr k rfl e.symm)
theorem own_away {w w' : World} {B : Nat} {e : TypeId} {size : Nat} {v : Value} {n : Nat} {xs : List Value} {row : Option Nat} (h : w.ownsRow B e size v n xs) (hg : w.grownBy w' row) (hk : ∀ k, v.ownBlock = some k → row ≠ some k) : w'.ownsRow B e size v n xs := by
  refine h.kept hg ?_
  cases hv : v.ownBlock with
  | none => exact Or.inl rfl
  | some k => right; exact fun c => hk k hv c.symm

/-- How long a slice is. -/
def lenOf : Value → Nat | .slice _ n _ => n | _ => 0
theorem lenOf_row {w : World} {B : Nat} {e : TypeId} {size : Nat} {v : Value} {n : Nat} {xs : List Value} (h : w.ownsRow B e size v n xs) : lenOf v = n := by
  rcases h.2 with ⟨rfl, rfl⟩ | ⟨g, cap, cur, rfl, _⟩ <;> rfl
/-- A row's value: a slice of its length. -/
theorem len_row {w : World} {B : Nat} {e : TypeId} {size : Nat} {v : Value} {n : Nat} {xs : List Value} (h : w.ownsRow B e size v n xs) : ∃ a c, v = .slice a n c := by
  rcases h.2 with ⟨rfl, rfl⟩ | ⟨g, cap, cur, rfl, _⟩
  · exact ⟨_, _, rfl⟩
  · exact ⟨_, _, rfl⟩

structure R.Mt where
  name : List UInt8
  val : List UInt8
  ask : Bool
def R.Mt.cells (m : R.Mt) : List Value := [.string (R.str m.name), .string (R.str m.val), .bool m.ask]
def R.mtCells (l : List R.Mt) : List Value := (l.map R.Mt.cells).flatten
theorem R.mtCells_snoc (l : List R.Mt) (m : R.Mt) : R.mtCells (l ++ [m]) = R.mtCells l ++ m.cells := by simp [R.mtCells]

def R.wHeader : List UInt8 := [104, 101, 97, 100, 101, 114]
/-- The state ahead of '='. -/
def R.mtA (ts : List R.Tok) (st : R.St) (n : Nat) : List UInt8 × R.St :=
  R.headerS ts (R.notS (R.needS ts st R.wHeader) (decide ((n : Int) < 3)) 3 (R.cur ts st).at_) []
def R.mtB (ts : List R.Tok) (s : R.St) : List UInt8 × R.St := if R.isB s (R.cur ts s) [61] then R.valueS ts s else ([], s)
def R.mtRound (ts : List R.Tok) (st : R.St) (acc : List R.Mt) : R.St × List R.Mt :=
  (R.needS ts (R.mtB ts (R.mtA ts st acc.length).2).2 [59],
   acc ++ [⟨(R.mtA ts st acc.length).1, (R.mtB ts (R.mtA ts st acc.length).2).1, R.isB (R.mtA ts st acc.length).2 (R.cur ts (R.mtA ts st acc.length).2) [61]⟩])
def R.mtLoop (ts : List R.Tok) : Nat → R.St → List R.Mt → List R.Mt × R.St
  | 0, st, acc => (acc, st)
  | n + 1, st, acc => if R.isB st (R.cur ts st) R.wHeader then R.mtLoop ts n (R.mtRound ts st acc).1 (R.mtRound ts st acc).2 else (acc, st)
def R.matchesS (ts : List R.Tok) (st : R.St) : List R.Mt × R.St := R.mtLoop ts (ts.length + 1) st []

theorem R.among_K (l : List (List UInt8)) (s : List UInt8) (p : Int) (st : R.St) : (R.among l s p st).K = st.K := by
  unfold R.among
  induction l generalizing st with
  | nil => rfl
  | cons a l ih => rw [List.foldl_cons, ih, R.notS_K]
theorem R.headerS_K (ts : List R.Tok) (st : R.St) (l : List (List UInt8)) : st.K ≤ (R.headerS ts st l).2.K := by
  unfold R.headerS; simp only [R.among_K, R.notS_K]; exact R.overS_K _ _ _
theorem R.needS_K (ts : List R.Tok) (st : R.St) (s : List UInt8) : st.K ≤ (R.needS ts st s).K := R.overS_K _ _ _
theorem R.kindS_K (ts : List R.Tok) (st : R.St) (k : Int) : st.K ≤ (R.kindS ts st k).K := R.overS_K _ _ _
theorem R.valueS_K (ts : List R.Tok) (st : R.St) : st.K ≤ (R.valueS ts st).2.K := by
  unfold R.valueS; simp only [R.notS_K]; exact Nat.le_trans (R.needS_K _ _ _) (R.kindS_K _ _ _)
theorem R.mtRound_K (ts : List R.Tok) (st : R.St) (acc : List R.Mt) (h : R.isB st (R.cur ts st) R.wHeader = true) : st.K + 1 ≤ (R.mtRound ts st acc).1.K := by
  have h1 := R.needS_yes h
  have h2 : (R.needS ts st R.wHeader).K ≤ (R.mtA ts st acc.length).2.K := by
    have := R.headerS_K ts (R.notS (R.needS ts st R.wHeader) (decide ((acc.length : Int) < 3)) 3 (R.cur ts st).at_) []
    rwa [R.notS_K] at this
  have h5 : (R.needS ts st R.wHeader).K = st.K + 1 := by rw [h1]
  have h3 : (R.mtA ts st acc.length).2.K ≤ (R.mtB ts (R.mtA ts st acc.length).2).2.K := by
    unfold R.mtB; split
    · exact R.valueS_K _ _
    · exact Nat.le_refl _
  have h4 := R.needS_K ts (R.mtB ts (R.mtA ts st acc.length).2).2 [59]
  unfold R.mtRound
  simp only
  omega

theorem info_mt : (Tryz.prog.info? 181).map (fun i => (i.zero, i.size, i.bytes)) = some (some (.agg #[.string ⟨#[]⟩, .string ⟨#[]⟩, .bool false]), 3, 40) := by kernel_rfl

set_option maxRecDepth 100000 in
set_option maxHeartbeats 4000000 in
theorem ref_matches {w : World} {rb g cap : Nat} {ts : List R.Tok} {st : R.St} {H : Value} (h : RInv w rb g cap ts st H) :
    Calls Tryz.prog 134 #[.pointer (some ⟨rb, 0, none⟩)] w fun e w' => ∃ v, e = .returned v ∧ RInv w' rb g cap ts (R.matchesS ts st).2 H ∧ w.grownBy w' (some rb) ∧ w'.ownsRow w.heap.size 181 3 v (R.matchesS ts st).1.length (R.mtCells (R.matchesS ts st).1) := by
  obtain ⟨i0, hi, hz0, hz1, hz2⟩ := info_parts info_mt
  have HP : Hid (R.matchesS ts st = R.mtLoop ts (ts.length + 1) st []) := rfl
  have H0 : Hid _ := h
  have brb : rb < w.heap.size := block_lt h.rd
  have hgl : g < w.heap.size := h.gl
  generalize R.matchesS ts st = r at *
  clear h
  go_enter Tryz.func134, Tryz.ntmps134
  go_wp2_with fail
  go_loopw [3] (fun v wr => ∃ (n : Nat) (acc : List R.Mt) (s : R.St), acc.length ≤ s.K ∧ s.K < ts.length ∧ ts.length < n + s.K ∧ Hid (R.mtLoop ts n s acc = r) ∧ Hid (RInv wr rb g cap ts s H) ∧ Hid (w.grownBy wr (some rb)) ∧ Hid (wr.ownsRow w.heap.size 181 3 v acc.length (R.mtCells acc))) (fun v _ => ts.length + 1 - lenOf v)
  case atStart => exact ⟨ts.length + 1, [], st, Nat.zero_le _, H0.out.lt, by omega, HP.out.symm, H0, grown_refl _ _, World.ownsRow_nil _ _ _ _⟩
  case round =>
    obtain ⟨n, acc, s, haK, hKl, hn, HL, IR, HR, HO⟩ := hrel
    have bwr : rb < wr.heap.size := block_lt IR.out.rd
    have zwr : w.heap.size ≤ wr.heap.size := HR.out.size
    have hts := IR.out.ok.len
    obtain ⟨n, rfl⟩ : ∃ m, n = m + 1 := ⟨n - 1, by omega⟩
    have HL1 := HL.out
    rw [R.mtLoop] at HL1
    have HLen : Hid (lenOf u3 = acc.length) := lenOf_row HO.out
    obtain ⟨ua, uc, rfl⟩ := len_row HO.out
    have HO_L0 : Hid _ := HO.out
    go_wp2_with fail
    refine (ref_isS IR.out _).mono ?_
    rintro e wL1 ⟨rfl, ggL1⟩
    have hgL1 := grown_wide ggL1 (some rb)
    have JL1 : Hid _ := (IR.out).keep ggL1
    have bL1 : rb < wL1.heap.size := block_lt JL1.out.rd
    have sL1 : wr.heap.size + 0 ≤ wL1.heap.size := by have h := hgL1.size; simpa using h
    have GL1 : Hid (wr.grownBy wL1 (some rb)) := hgL1
    have CL1 : Hid (w.grownBy wL1 (some rb)) := grown_trans HR.out GL1.out
    have zL1 : w.heap.size ≤ wL1.heap.size := CL1.out.size
    have HO_L1 : Hid _ := own_kept HO_L0.out GL1.out (by omega)
    clear hgL1 ggL1
    rw [show (⟨#[104, 101, 97, 100, 101, 114]⟩ : ByteArray).data.toList = R.wHeader from rfl]
    cases hgo : R.isB s (R.cur ts s) R.wHeader
    · rw [if_neg (by rw [hgo]; simp)] at HL1
      go_wp2
      go_ret
      exact ⟨_, rfl, by rw [← HL1]; exact JL1.out, CL1.out, by rw [← HL1]; exact HO_L1.out⟩
    · rw [if_pos (by rw [hgo])] at HL1
      have hKr := R.mtRound_K ts s acc hgo
      have HRd1 : Hid ((R.mtRound ts s acc).1 = R.needS ts (R.mtB ts (R.mtA ts s acc.length).2).2 [59]) := rfl
      have HRd2 : Hid ((R.mtRound ts s acc).2 = acc ++ [⟨(R.mtA ts s acc.length).1, (R.mtB ts (R.mtA ts s acc.length).2).1, R.isB (R.mtA ts s acc.length).2 (R.cur ts (R.mtA ts s acc.length).2) [61]⟩]) := rfl
      have hrl : (R.mtRound ts s acc).2.length = acc.length + 1 := by rw [HRd2.out]; simp
      generalize R.mtRound ts s acc = rr at *
      obtain ⟨s5, acc5⟩ := rr
      simp only at HL1 hKr HRd1 HRd2 hrl
      have HL2 : Hid _ := HL1
      clear HL1 HL
      go_wp2_with fail
      refine (ref_needS JL1.out _).mono ?_
      rintro e wLy1 ⟨rfl, ILy1, hgLy1⟩
      have JLy1 : Hid _ := ILy1
      have bLy1 : rb < wLy1.heap.size := block_lt JLy1.out.rd
      have sLy1 : wL1.heap.size + 0 ≤ wLy1.heap.size := by have h := hgLy1.size; simpa using h
      have GLy1 : Hid (wL1.grownBy wLy1 (some rb)) := hgLy1
      have CLy1 : Hid (w.grownBy wLy1 (some rb)) := grown_trans CL1.out GLy1.out
      have zLy1 : w.heap.size ≤ wLy1.heap.size := CLy1.out.size
      have HO_Ly1 : Hid _ := own_kept HO_L1.out GLy1.out (by omega)
      clear hgLy1 ILy1
      go_wp2_with fail
      refine (ref_not (JLy1.out.keep (World.grownBy_alloc _ _ _)) _ _ _ _ _).mono ?_
      rintro e wLy2 ⟨rfl, ILy2, hgLy2⟩
      have JLy2 : Hid _ := ILy2
      have bLy2 : rb < wLy2.heap.size := block_lt JLy2.out.rd
      have sLy2 : wLy1.heap.size + 1 ≤ wLy2.heap.size := by have h := hgLy2.size; simpa using h
      have GLy2 : Hid (wLy1.grownBy wLy2 (some rb)) := (grown_trans (World.grownBy_alloc _ _ _) hgLy2)
      have CLy2 : Hid (w.grownBy wLy2 (some rb)) := grown_trans CLy1.out GLy2.out
      have zLy2 : w.heap.size ≤ wLy2.heap.size := CLy2.out.size
      have HO_Ly2 : Hid _ := own_kept HO_Ly1.out GLy2.out (by omega)
      clear hgLy2 ILy2
      go_wp2_with fail
      refine (ref_header JLy2.out (.slice none 0 0) [] (World.ownsRow_nil _ _ _ _) (by simp) (by simp [Value.ownBlock])).mono ?_
      rintro e wLy3 ⟨rfl, ILy3, hgLy3⟩
      have JLy3 : Hid _ := ILy3
      have bLy3 : rb < wLy3.heap.size := block_lt JLy3.out.rd
      have sLy3 : wLy2.heap.size + 0 ≤ wLy3.heap.size := by have h := hgLy3.size; simpa using h
      have GLy3 : Hid (wLy2.grownBy wLy3 (some rb)) := hgLy3
      have CLy3 : Hid (w.grownBy wLy3 (some rb)) := grown_trans CLy2.out GLy3.out
      have zLy3 : w.heap.size ≤ wLy3.heap.size := CLy3.out.size
      have HO_Ly3 : Hid _ := own_kept HO_Ly2.out GLy3.out (by omega)
      clear hgLy3 ILy3
      have JA : Hid (RInv wLy3 rb g cap ts (R.mtA ts s acc.length).2 H) := JLy3
      have HNl : Hid ((R.mtA ts s acc.length).1.length ≤ 3000) := by show _ ≤ _; unfold R.mtA R.headerS; simp only [lower_len]; exact JLy2.out.ok.strs _ _ JLy2.out.cur
      rw [show (R.headerS ts (R.notS (R.needS ts s (⟨#[104, 101, 97, 100, 101, 114]⟩ : ByteArray).data.toList) (decide ((acc.length : Int) < 3)) 3 ((R.cur ts s).at_ : Int)) []).1 = (R.mtA ts s acc.length).1 from rfl]
      generalize R.mtA ts s acc.length = pa at *
      obtain ⟨nm, s3⟩ := pa
      simp only at JA HRd1 HRd2 HNl ⊢
      have ltHO : ∀ k, (.slice ua acc.length uc : Value).ownBlock = some k → k < wLy3.heap.size := fun k hk => (World.ownsRow.lt HO_Ly3.out k hk).2
      go_wp2_with fail
      refine (ref_isS (JA.out.keep (World.grownBy_alloc _ _ _)) _).mono ?_
      rintro e wLy4 ⟨rfl, ggLy4⟩
      have hgLy4 := grown_wide ggLy4 (some rb)
      have JLy4 : Hid _ := ((JA.out.keep (World.grownBy_alloc _ _ _))).keep ggLy4
      have bLy4 : rb < wLy4.heap.size := block_lt JLy4.out.rd
      have sLy4 : wLy3.heap.size + 1 ≤ wLy4.heap.size := by have h := hgLy4.size; simpa using h
      have GLy4 : Hid (wLy3.grownBy wLy4 (some rb)) := (grown_trans (World.grownBy_alloc _ _ _) hgLy4)
      have CLy4 : Hid (w.grownBy wLy4 (some rb)) := grown_trans CLy3.out GLy4.out
      have zLy4 : w.heap.size ≤ wLy4.heap.size := CLy4.out.size
      have HO_Ly4 : Hid _ := own_kept HO_Ly3.out GLy4.out (by omega)
      have MB_Ly4 : Hid (wLy4.heap[wLy3.heap.size]? = some (.cells #[.string (R.str nm), .string ⟨#[]⟩, .bool false] 181)) := new_block hgLy4 (by simp; omega)
      clear hgLy4 ggLy4
      rw [show (⟨#[61]⟩ : ByteArray).data.toList = [61] from rfl]
      have HB : Hid (R.mtB ts s3 = if R.isB s3 (R.cur ts s3) [61] then R.valueS ts s3 else ([], s3)) := rfl
      generalize R.mtB ts s3 = pb at *
      obtain ⟨vl, s4⟩ := pb
      simp only at HRd1 HRd2
      have qMBl : wLy3.heap.size < wLy4.heap.size := block_lt MB_Ly4.out
      have qMB0 : wLy4.cell? ⟨wLy3.heap.size, 0, none⟩ = some (.string (R.str nm)) := cell_of_block MB_Ly4.out
      have qMBf0 : wLy4.frozen? ⟨wLy3.heap.size, 0, none⟩ = false := frozen_of_block MB_Ly4.out
      have qMB1 : wLy4.cell? ⟨wLy3.heap.size, 1, none⟩ = some (.string ⟨#[]⟩) := cell_of_block MB_Ly4.out
      have qMBf1 : wLy4.frozen? ⟨wLy3.heap.size, 1, none⟩ = false := frozen_of_block MB_Ly4.out
      have qMB2 : wLy4.cell? ⟨wLy3.heap.size, 2, none⟩ = some (.bool false) := cell_of_block MB_Ly4.out
      have qMBf2 : wLy4.frozen? ⟨wLy3.heap.size, 2, none⟩ = false := frozen_of_block MB_Ly4.out
      cases hask : R.isB s3 (R.cur ts s3) [61]
      · rw [if_neg (by rw [hask]; simp)] at HB
        obtain ⟨hvl, hs4⟩ := Prod.mk.inj HB.out
        have HV : Hid (vl = []) := hvl
        have HS4 : Hid (s4 = s3) := hs4
        clear hvl hs4
        rw [HS4.out] at HRd1
        have JLyn1 : Hid _ := JLy4.out.other (grown_setCell wLy4 wLy3.heap.size 2 (.bool false)) (by omega) (by omega)
        have CLyn1 : Hid (w.grownBy (World.setCell wLy4 ⟨wLy3.heap.size, 2, none⟩ (.bool false)) (some rb)) := grown_new CLy4.out (grown_setCell wLy4 wLy3.heap.size 2 (.bool false)) (by omega)
        have HO_Lyn1 : Hid _ := own_kept_box HO_Ly4.out (grown_setCell wLy4 wLy3.heap.size 2 (.bool false)) (fun k hk => by have := ltHO k hk; omega)
        have MB_Lyn1 : Hid ((World.setCell wLy4 ⟨wLy3.heap.size, 2, none⟩ (.bool false)).heap[wLy3.heap.size]? = some (.cells #[.string (R.str nm), .string ⟨#[]⟩, .bool false] 181)) := block_setCell MB_Ly4.out (.bool false)
        have sLyn1 : wLy4.heap.size ≤ (World.setCell wLy4 ⟨wLy3.heap.size, 2, none⟩ (.bool false)).heap.size := by simp [World.setCell]
        have yLyn1 : (World.setCell wLy4 ⟨wLy3.heap.size, 2, none⟩ (.bool false)).heap.size ≤ wLy4.heap.size := by simp [World.setCell]
        go_wp2_with (at_builtin; refine wpList_append_lies _ rfl _ _ 122 rfl (w.heap.size) 181 i0 _ 3 40 Tryz.underlying122 hi hz0 hz1 hz2 rfl (by decide) _ _ _ rfl (World.ownsRow.alloc HO_Lyn1.out _) ⟨wLy4.heap.size, 0, none⟩ 1 1 [.string (R.str nm), .string (⟨#[]⟩), .bool false] rfl rfl ?c1 ?c2 (by decide) ?c3 ?c4 ?c5 (wLy4.heap.size + 1) (by simp [World.setCell]) ?_)
        case c1 => exact cells_new _ #[_, _, _] _ _ (by simp [World.setCell])
        case c2 => intro u hu; simp at hu; rcases hu with rfl | rfl | rfl <;> rfl
        case c3 => unfold maxLen; omega
        case c4 => omega
        case c5 => have := CLyn1.out.size; simp; omega
        intro gLyn2 capLyn2 wLyn2 hownLyn2 hgrowLyn2 hatLyn2 _
        have HO_Lyn2 : Hid (wLyn2.ownsRow w.heap.size 181 3 (.slice (some ⟨gLyn2, 0, none⟩) (acc.length + 1) capLyn2) (acc ++ [(⟨nm, vl, false⟩ : R.Mt)]).length (R.mtCells (acc ++ [(⟨nm, vl, false⟩ : R.Mt)]))) := by rw [R.mtCells_snoc, List.length_append]; rw [HV.out]; exact hownLyn2
        have farLyn2 : ∀ k, (.slice ua acc.length uc : Value).ownBlock = some k → w.heap.size ≤ k := fun k hk => (World.ownsRow.lt HO_Lyn1.out k hk).1
        have nearLyn2 : ∀ k, (.slice ua acc.length uc : Value).ownBlock = some k → k < (World.setCell wLy4 ⟨wLy3.heap.size, 2, none⟩ (.bool false)).heap.size := fun k hk => (World.ownsRow.lt HO_Lyn1.out k hk).2
        have JLyn2 : Hid _ := (JLyn1.out.keep (World.grownBy_alloc _ _ _)).away hgrowLyn2 (fun k hk => by have h1 := farLyn2 k hk; exact ⟨by omega, by omega⟩)
        have CLyn2 : Hid (w.grownBy wLyn2 (some rb)) := grown_far (grown_trans CLyn1.out (World.grownBy_alloc _ _ _)) hgrowLyn2 (fun k hk => by have h1 := farLyn2 k hk; omega)
        have bLyn2 : rb < wLyn2.heap.size := block_lt JLyn2.out.rd
        have sLyn2 : (World.setCell wLy4 ⟨wLy3.heap.size, 2, none⟩ (.bool false)).heap.size + 1 ≤ wLyn2.heap.size := by have h := hgrowLyn2.size; simpa using h
        have zLyn2 : w.heap.size ≤ wLyn2.heap.size := CLyn2.out.size
        clear hownLyn2 hgrowLyn2 farLyn2
        go_wp2_with fail
        refine (ref_needS JLyn2.out _).mono ?_
        rintro e wLyn3 ⟨rfl, ILyn3, hgLyn3⟩
        have JLyn3 : Hid _ := ILyn3
        have bLyn3 : rb < wLyn3.heap.size := block_lt JLyn3.out.rd
        have sLyn3 : wLyn2.heap.size + 0 ≤ wLyn3.heap.size := by have h := hgLyn3.size; simpa using h
        have GLyn3 : Hid (wLyn2.grownBy wLyn3 (some rb)) := hgLyn3
        have CLyn3 : Hid (w.grownBy wLyn3 (some rb)) := grown_trans CLyn2.out GLyn3.out
        have zLyn3 : w.heap.size ≤ wLyn3.heap.size := CLyn3.out.size
        have HO_Lyn3 : Hid _ := own_kept HO_Lyn2.out GLyn3.out (by omega)
        clear hgLyn3 ILyn3
        go_wp2
        go_roundw
        case rel => exact ⟨n, acc5, s5, by omega, by rw [HRd1.out]; exact JLyn3.out.lt, by omega, HL2, by rw [HRd1.out]; exact JLyn3.out, CLyn3, by rw [HRd2.out, hask]; exact HO_Lyn3.out⟩
        case measure => show _ < _; rw [show lenOf (.slice (some ⟨gLyn2, 0, none⟩) (acc.length + 1) capLyn2) = acc.length + 1 from by rw [lenOf_row HO_Lyn3.out]; simp]; simp [lenOf]; omega
      · rw [if_pos (by rw [hask])] at HB
        have HV : Hid ((R.valueS ts s3).1 = vl) := by rw [← HB.out]; rfl
        have HS4 : Hid ((R.valueS ts s3).2 = s4) := by rw [← HB.out]; rfl
        go_wp2_with fail
        have JLyy1 : Hid _ := JLy4.out.other (grown_setCell wLy4 wLy3.heap.size 2 (.bool true)) (by omega) (by omega)
        have CLyy1 : Hid (w.grownBy (World.setCell wLy4 ⟨wLy3.heap.size, 2, none⟩ (.bool true)) (some rb)) := grown_new CLy4.out (grown_setCell wLy4 wLy3.heap.size 2 (.bool true)) (by omega)
        have HO_Lyy1 : Hid _ := own_kept_box HO_Ly4.out (grown_setCell wLy4 wLy3.heap.size 2 (.bool true)) (fun k hk => by have := ltHO k hk; omega)
        have MB_Lyy1 : Hid ((World.setCell wLy4 ⟨wLy3.heap.size, 2, none⟩ (.bool true)).heap[wLy3.heap.size]? = some (.cells #[.string (R.str nm), .string ⟨#[]⟩, .bool true] 181)) := block_setCell MB_Ly4.out (.bool true)
        have sLyy1 : wLy4.heap.size ≤ (World.setCell wLy4 ⟨wLy3.heap.size, 2, none⟩ (.bool true)).heap.size := by simp [World.setCell]
        have yLyy1 : (World.setCell wLy4 ⟨wLy3.heap.size, 2, none⟩ (.bool true)).heap.size ≤ wLy4.heap.size := by simp [World.setCell]
        generalize (World.setCell wLy4 ⟨wLy3.heap.size, 2, none⟩ (.bool true)) = wLyy1 at *
        have bLyy1 : rb < wLyy1.heap.size := by omega
        refine (ref_value JLyy1.out).mono ?_
        rintro e wLyy2 ⟨rfl, ILyy2, hgLyy2⟩
        have JLyy2 : Hid _ := ILyy2
        have bLyy2 : rb < wLyy2.heap.size := block_lt JLyy2.out.rd
        have sLyy2 : wLyy1.heap.size + 0 ≤ wLyy2.heap.size := by have h := hgLyy2.size; simpa using h
        have GLyy2 : Hid (wLyy1.grownBy wLyy2 (some rb)) := hgLyy2
        have CLyy2 : Hid (w.grownBy wLyy2 (some rb)) := grown_trans CLyy1.out GLyy2.out
        have zLyy2 : w.heap.size ≤ wLyy2.heap.size := CLyy2.out.size
        have HO_Lyy2 : Hid _ := own_kept HO_Lyy1.out GLyy2.out (by omega)
        have MB_Lyy2 : Hid (wLyy2.heap[wLy3.heap.size]? = some (.cells #[.string (R.str nm), .string ⟨#[]⟩, .bool true] 181)) := keep_block MB_Lyy1.out GLyy2.out (by simp; omega)
        clear hgLyy2 ILyy2
        rw [HS4.out] at JLyy2
        rw [HV.out]
        have qml : wLy3.heap.size < wLyy2.heap.size := block_lt MB_Lyy2.out
        have qm0 : wLyy2.cell? ⟨wLy3.heap.size, 0, none⟩ = some (.string (R.str nm)) := cell_of_block MB_Lyy2.out
        have qmf0 : wLyy2.frozen? ⟨wLy3.heap.size, 0, none⟩ = false := frozen_of_block MB_Lyy2.out
        have qm1 : wLyy2.cell? ⟨wLy3.heap.size, 1, none⟩ = some (.string ⟨#[]⟩) := cell_of_block MB_Lyy2.out
        have qmf1 : wLyy2.frozen? ⟨wLy3.heap.size, 1, none⟩ = false := frozen_of_block MB_Lyy2.out
        have qm2 : wLyy2.cell? ⟨wLy3.heap.size, 2, none⟩ = some (.bool true) := cell_of_block MB_Lyy2.out
        have qmf2 : wLyy2.frozen? ⟨wLy3.heap.size, 2, none⟩ = false := frozen_of_block MB_Lyy2.out
        have JLyy3 : Hid _ := JLyy2.out.other (grown_setCell wLyy2 wLy3.heap.size 1 (.string (R.str vl))) (by omega) (by omega)
        have CLyy3 : Hid (w.grownBy (World.setCell wLyy2 ⟨wLy3.heap.size, 1, none⟩ (.string (R.str vl))) (some rb)) := grown_new CLyy2.out (grown_setCell wLyy2 wLy3.heap.size 1 (.string (R.str vl))) (by omega)
        have HO_Lyy3 : Hid _ := own_kept_box HO_Lyy2.out (grown_setCell wLyy2 wLy3.heap.size 1 (.string (R.str vl))) (fun k hk => by have := ltHO k hk; omega)
        have MB_Lyy3 : Hid ((World.setCell wLyy2 ⟨wLy3.heap.size, 1, none⟩ (.string (R.str vl))).heap[wLy3.heap.size]? = some (.cells #[.string (R.str nm), .string (R.str vl), .bool true] 181)) := block_setCell MB_Lyy2.out (.string (R.str vl))
        have sLyy3 : wLyy2.heap.size ≤ (World.setCell wLyy2 ⟨wLy3.heap.size, 1, none⟩ (.string (R.str vl))).heap.size := by simp [World.setCell]
        have yLyy3 : (World.setCell wLyy2 ⟨wLy3.heap.size, 1, none⟩ (.string (R.str vl))).heap.size ≤ wLyy2.heap.size := by simp [World.setCell]
        go_wp2_with (at_builtin; refine wpList_append_lies _ rfl _ _ 122 rfl (w.heap.size) 181 i0 _ 3 40 Tryz.underlying122 hi hz0 hz1 hz2 rfl (by decide) _ _ _ rfl (World.ownsRow.alloc HO_Lyy3.out _) ⟨wLyy2.heap.size, 0, none⟩ 1 1 [.string (R.str nm), .string (R.str vl), .bool true] rfl rfl ?c1 ?c2 (by decide) ?c3 ?c4 ?c5 (wLyy2.heap.size + 1) (by simp [World.setCell]) ?_)
        case c1 => exact cells_new _ #[_, _, _] _ _ (by simp [World.setCell])
        case c2 => intro u hu; simp at hu; rcases hu with rfl | rfl | rfl <;> rfl
        case c3 => unfold maxLen; omega
        case c4 => omega
        case c5 => have := CLyy3.out.size; simp; omega
        intro gLyy4 capLyy4 wLyy4 hownLyy4 hgrowLyy4 hatLyy4 _
        have HO_Lyy4 : Hid (wLyy4.ownsRow w.heap.size 181 3 (.slice (some ⟨gLyy4, 0, none⟩) (acc.length + 1) capLyy4) (acc ++ [(⟨nm, vl, true⟩ : R.Mt)]).length (R.mtCells (acc ++ [(⟨nm, vl, true⟩ : R.Mt)]))) := by rw [R.mtCells_snoc, List.length_append]; exact hownLyy4
        have farLyy4 : ∀ k, (.slice ua acc.length uc : Value).ownBlock = some k → w.heap.size ≤ k := fun k hk => (World.ownsRow.lt HO_Lyy3.out k hk).1
        have nearLyy4 : ∀ k, (.slice ua acc.length uc : Value).ownBlock = some k → k < (World.setCell wLyy2 ⟨wLy3.heap.size, 1, none⟩ (.string (R.str vl))).heap.size := fun k hk => (World.ownsRow.lt HO_Lyy3.out k hk).2
        have JLyy4 : Hid _ := (JLyy3.out.keep (World.grownBy_alloc _ _ _)).away hgrowLyy4 (fun k hk => by have h1 := farLyy4 k hk; exact ⟨by omega, by omega⟩)
        have CLyy4 : Hid (w.grownBy wLyy4 (some rb)) := grown_far (grown_trans CLyy3.out (World.grownBy_alloc _ _ _)) hgrowLyy4 (fun k hk => by have h1 := farLyy4 k hk; omega)
        have bLyy4 : rb < wLyy4.heap.size := block_lt JLyy4.out.rd
        have sLyy4 : (World.setCell wLyy2 ⟨wLy3.heap.size, 1, none⟩ (.string (R.str vl))).heap.size + 1 ≤ wLyy4.heap.size := by have h := hgrowLyy4.size; simpa using h
        have zLyy4 : w.heap.size ≤ wLyy4.heap.size := CLyy4.out.size
        clear hownLyy4 hgrowLyy4 farLyy4
        go_wp2_with fail
        refine (ref_needS JLyy4.out _).mono ?_
        rintro e wLyy5 ⟨rfl, ILyy5, hgLyy5⟩
        have JLyy5 : Hid _ := ILyy5
        have bLyy5 : rb < wLyy5.heap.size := block_lt JLyy5.out.rd
        have sLyy5 : wLyy4.heap.size + 0 ≤ wLyy5.heap.size := by have h := hgLyy5.size; simpa using h
        have GLyy5 : Hid (wLyy4.grownBy wLyy5 (some rb)) := hgLyy5
        have CLyy5 : Hid (w.grownBy wLyy5 (some rb)) := grown_trans CLyy4.out GLyy5.out
        have zLyy5 : w.heap.size ≤ wLyy5.heap.size := CLyy5.out.size
        have HO_Lyy5 : Hid _ := own_kept HO_Lyy4.out GLyy5.out (by omega)
        clear hgLyy5 ILyy5
        go_wp2
        go_roundw
        case rel => exact ⟨n, acc5, s5, by omega, by rw [HRd1.out]; exact JLyy5.out.lt, by omega, HL2, by rw [HRd1.out]; exact JLyy5.out, CLyy5, by rw [HRd2.out, hask]; exact HO_Lyy5.out⟩
        case measure => show _ < _; rw [show lenOf (.slice (some ⟨gLyy4, 0, none⟩) (acc.length + 1) capLyy4) = acc.length + 1 from by rw [lenOf_row HO_Lyy5.out]; simp]; simp [lenOf]; omega

end Go.Proofs.YtfocdefchbnkpaaGreatDoor
