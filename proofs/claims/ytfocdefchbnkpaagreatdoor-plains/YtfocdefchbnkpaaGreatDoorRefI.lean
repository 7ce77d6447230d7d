/- What a rule sets and drops, as the document's own reader reads it into the rule. -/
import Derived.Test.YtfocdefchbnkpaaGreatDoorRefH
namespace Go.Proofs.YtfocdefchbnkpaaGreatDoor
open Go.RowKit

/-- Nothing that was there has turned but two blocks. -/
structure Kept2 (w w' : World) (a b : Nat) : Prop where
  os : w'.os = w.os
  tape : w'.tape = w.tape
  output : w'.output = w.output
  size : w.heap.size ≤ w'.heap.size
  block : ∀ k, k < w.heap.size → k ≠ a → k ≠ b → w'.heap[k]? = w.heap[k]?
theorem Kept2.refl (w : World) (a b : Nat) : Kept2 w w a b := ⟨rfl, rfl, rfl, Nat.le_refl _, fun _ _ _ _ => rfl⟩
theorem Kept2.step {w x y : World} {a b : Nat} (h : Kept2 w x a b) (g : x.grownBy y (some a)) : Kept2 w y a b :=
  ⟨g.os.trans h.os, g.tape.trans h.tape, g.output.trans h.output, Nat.le_trans h.size g.size, fun k hk ha hb => (g.block k (Nat.lt_of_lt_of_le hk h.size) (by simpa using ha)).trans (h.block k hk ha hb)⟩
theorem Kept2.own {w x y : World} {a b : Nat} (h : Kept2 w x a b) (g : x.grownBy y (some b)) : Kept2 w y a b :=
  ⟨g.os.trans h.os, g.tape.trans h.tape, g.output.trans h.output, Nat.le_trans h.size g.size, fun k hk ha hb => (g.block k (Nat.lt_of_lt_of_le hk h.size) (by simpa using hb)).trans (h.block k hk ha hb)⟩
theorem Kept2.far {w x y : World} {a b : Nat} {row : Option Nat} (h : Kept2 w x a b) (g : x.grownBy y row) (hr : ∀ k, row = some k → w.heap.size ≤ k) : Kept2 w y a b :=
  ⟨g.os.trans h.os, g.tape.trans h.tape, g.output.trans h.output, Nat.le_trans h.size g.size, fun k hk ha hb => (g.block k (Nat.lt_of_lt_of_le hk h.size) (fun e => by have := hr k e.symm; omega)).trans (h.block k hk ha hb)⟩
theorem Kept2.keep {w w' : World} {a b k : Nat} {o : Obj} (h : Kept2 w w' a b) (hk : w.heap[k]? = some o) (h1 : k ≠ a) (h2 : k ≠ b) : w'.heap[k]? = some o := by
  rw [h.block k (block_lt hk) h1 h2]; exact hk

theorem row_kind {w : World} {B : Nat} {e : TypeId} {size : Nat} {v : Value} {n : Nat} {xs : List Value} (h : w.ownsRow B e size v n xs) : ∀ k, v.ownBlock = some k → ∃ c, w.heap[k]? = some (.cells c e (0, 0)) := by
  intro k hk
  rcases h.2 with ⟨rfl, _⟩ | ⟨g, cap, cur, rfl, _, hg, _⟩
  · simp [Value.ownBlock] at hk
  · simp [Value.ownBlock] at hk; subst hk; exact ⟨cur, hg⟩
/-- Rows of different types lie apart. -/
theorem tag_apart {w : World} {B B' : Nat} {e e' : TypeId} {s s' : Nat} {v v' : Value} {n n' : Nat} {xs xs' : List Value} (h : w.ownsRow B e s v n xs) (h' : w.ownsRow B' e' s' v' n' xs') (hne : e ≠ e') : ∀ k, v'.ownBlock = some k → v.ownBlock ≠ some k := by
  intro k hk hv
  obtain ⟨c, h1⟩ := row_kind h k hv
  obtain ⟨c', h2⟩ := row_kind h' k hk
  rw [h1] at h2
  simp only [Option.some.injEq, Obj.cells.injEq] at h2
  exact hne h2.2.1
theorem box_apart {w : World} {b B : Nat} {cs : Array Value} {t e : TypeId} {f : Nat × Nat} {s : Nat} {v : Value} {n : Nat} {xs : List Value} (h : w.heap[b]? = some (.cells cs t f)) (h' : w.ownsRow B e s v n xs) (hne : t ≠ e) : ∀ k, v.ownBlock = some k → k ≠ b := by
  intro k hk e1
  obtain ⟨c', h2⟩ := row_kind h' k hk
  rw [e1, h] at h2
  simp only [Option.some.injEq, Obj.cells.injEq] at h2
  exact hne h2.2.1
/-- Two rows of one type, apart: one of them has grown. -/
theorem dis_left {vA vD : Value} {g' H n c : Nat} (dis : ∀ k, vA.ownBlock = some k → vD.ownBlock ≠ some k) (hat : vA.ownBlock = some g' ∨ g' = H) (hD : ∀ k, vD.ownBlock = some k → k < H) : ∀ k, (Value.slice (some ⟨g', 0, none⟩) n c).ownBlock = some k → vD.ownBlock ≠ some k := by
  intro k hk hd
  simp [Value.ownBlock] at hk
  subst hk
  rcases hat with h | h
  · exact dis _ h hd
  · have := hD _ hd; omega
theorem dis_right {vA vD : Value} {g' H n c : Nat} (dis : ∀ k, vA.ownBlock = some k → vD.ownBlock ≠ some k) (hat : vD.ownBlock = some g' ∨ g' = H) (hA : ∀ k, vA.ownBlock = some k → k < H) : ∀ k, vA.ownBlock = some k → (Value.slice (some ⟨g', 0, none⟩) n c).ownBlock ≠ some k := by
  intro k hk hd
  simp [Value.ownBlock] at hd
  subst hd
  rcases hat with h | h
  · exact dis _ hk h
  · have := hA _ hk; omega
theorem row_base {w : World} {B B' : Nat} {e : TypeId} {s : Nat} {v : Value} {n : Nat} {xs : List Value} (h : w.ownsRow B e s v n xs) (hb : B' ≤ B) : w.ownsRow B' e s v n xs := by
  refine ⟨h.1, ?_⟩
  rcases h.2 with h2 | ⟨g, cap, cur, rfl, h3, r⟩
  · exact Or.inl h2
  · exact Or.inr ⟨g, cap, cur, rfl, by omega, r⟩

def R.fdCells (l : List (List UInt8 × List UInt8)) : List Value := (l.map fun t => [Value.string (R.str t.1), .string (R.str t.2)]).flatten
theorem R.fdCells_snoc (l : List (List UInt8 × List UInt8)) (t : List UInt8 × List UInt8) : R.fdCells (l ++ [t]) = R.fdCells l ++ [Value.string (R.str t.1), .string (R.str t.2)] := by simp [R.fdCells]
theorem R.strCells_snoc (l : List (List UInt8)) (t : List UInt8) : R.strCells (l ++ [t]) = R.strCells l ++ [Value.string (R.str t)] := by simp [R.strCells]

def R.wSet : List UInt8 := [115, 101, 116]
def R.wDrop : List UInt8 := [100, 114, 111, 112]
def R.stA (ts : List R.Tok) (st : R.St) (n : Nat) (am : List (List UInt8)) : List UInt8 × R.St :=
  R.headerS ts (R.notS (R.needS ts st R.wSet) (decide ((n : Int) < 3)) 3 (R.cur ts st).at_) am
def R.stRound (ts : List R.Tok) (st : R.St) (acc : List (List UInt8 × List UInt8)) : R.St × List (List UInt8 × List UInt8) :=
  (R.needS ts (R.valueS ts (R.stA ts st acc.length (acc.map Prod.fst)).2).2 [59], acc ++ [((R.stA ts st acc.length (acc.map Prod.fst)).1, (R.valueS ts (R.stA ts st acc.length (acc.map Prod.fst)).2).1)])
def R.stLoop (ts : List R.Tok) : Nat → R.St → List (List UInt8 × List UInt8) → List (List UInt8 × List UInt8) × R.St
  | 0, st, acc => (acc, st)
  | n + 1, st, acc => if R.isB st (R.cur ts st) R.wSet then R.stLoop ts n (R.stRound ts st acc).1 (R.stRound ts st acc).2 else (acc, st)
def R.dpA (ts : List R.Tok) (st : R.St) (n : Nat) (am : List (List UInt8)) : List UInt8 × R.St :=
  R.headerS ts (R.notS (R.needS ts st R.wDrop) (decide ((n : Int) < 3)) 3 (R.cur ts st).at_) am
def R.dpRound (ts : List R.Tok) (st : R.St) (sets acc : List (List UInt8)) : R.St × List (List UInt8) :=
  (R.needS ts (R.dpA ts st acc.length (sets ++ acc)).2 [59], acc ++ [(R.dpA ts st acc.length (sets ++ acc)).1])
def R.dpLoop (ts : List R.Tok) (sets : List (List UInt8)) : Nat → R.St → List (List UInt8) → List (List UInt8) × R.St
  | 0, st, acc => (acc, st)
  | n + 1, st, acc => if R.isB st (R.cur ts st) R.wDrop then R.dpLoop ts sets n (R.dpRound ts st sets acc).1 (R.dpRound ts st sets acc).2 else (acc, st)
def R.editsS (ts : List R.Tok) (st : R.St) : (List (List UInt8 × List UInt8) × List (List UInt8)) × R.St :=
  (((R.stLoop ts (ts.length + 1) st []).1, (R.dpLoop ts ((R.stLoop ts (ts.length + 1) st []).1.map Prod.fst) (ts.length + 1) (R.stLoop ts (ts.length + 1) st []).2 []).1),
   (R.dpLoop ts ((R.stLoop ts (ts.length + 1) st []).1.map Prod.fst) (ts.length + 1) (R.stLoop ts (ts.length + 1) st []).2 []).2)

theorem R.stRound_K (ts : List R.Tok) (st : R.St) (acc : List (List UInt8 × List UInt8)) (h : R.isB st (R.cur ts st) R.wSet = true) : st.K + 1 ≤ (R.stRound ts st acc).1.K := by
  have h1 := R.needS_yes h
  have h2 : (R.needS ts st R.wSet).K ≤ (R.stA ts st acc.length (acc.map Prod.fst)).2.K := by
    have := R.headerS_K ts (R.notS (R.needS ts st R.wSet) (decide ((acc.length : Int) < 3)) 3 (R.cur ts st).at_) (acc.map Prod.fst)
    rwa [R.notS_K] at this
  have h5 : (R.needS ts st R.wSet).K = st.K + 1 := by rw [h1]
  have h3 := R.valueS_K ts (R.stA ts st acc.length (acc.map Prod.fst)).2
  have h4 := R.needS_K ts (R.valueS ts (R.stA ts st acc.length (acc.map Prod.fst)).2).2 [59]
  unfold R.stRound
  simp only
  omega
theorem R.dpRound_K (ts : List R.Tok) (st : R.St) (sets acc : List (List UInt8)) (h : R.isB st (R.cur ts st) R.wDrop = true) : st.K + 1 ≤ (R.dpRound ts st sets acc).1.K := by
  have h1 := R.needS_yes h
  have h2 : (R.needS ts st R.wDrop).K ≤ (R.dpA ts st acc.length (sets ++ acc)).2.K := by
    have := R.headerS_K ts (R.notS (R.needS ts st R.wDrop) (decide ((acc.length : Int) < 3)) 3 (R.cur ts st).at_) (sets ++ acc)
    rwa [R.notS_K] at this
  have h5 : (R.needS ts st R.wDrop).K = st.K + 1 := by rw [h1]
  have h4 := R.needS_K ts (R.dpA ts st acc.length (sets ++ acc)).2 [59]
  unfold R.dpRound
  simp only
  omega

theorem info_fd : (Tryz.prog.info? 185).map (fun i => (i.zero, i.size, i.bytes)) = some (some (.agg #[.string ⟨#[]⟩, .string ⟨#[]⟩]), 2, 32) := by kernel_rfl
theorem info_str : (Tryz.prog.info? 9).map (fun i => (i.zero, i.size, i.bytes)) = some (some (.string ⟨#[]⟩), 1, 16) := by kernel_rfl

set_option maxRecDepth 100000 in
set_option maxHeartbeats 4000000 in
theorem ref_edits {w : World} {rb g cap : Nat} {ts : List R.Tok} {st : R.St} {H : Value} (h : RInv w rb g cap ts st H) (ub : Nat) (c0 c1 c2 c3 c4 c5 : Value)
    (hu : w.heap[ub]? = some (.cells #[c0, c1, c2, c3, c4, c5, .slice none 0 0, .slice none 0 0] 126 (0, 0))) (hub : ub ≠ rb) (hug : ub ≠ g) :
    Calls Tryz.prog 136 #[.pointer (some ⟨rb, 0, none⟩), .pointer (some ⟨ub, 0, none⟩)] w fun e w' => e = .returned (.tuple #[]) ∧ RInv w' rb g cap ts (R.editsS ts st).2 H ∧ Kept2 w w' rb ub ∧
      ∃ vS vD, w'.heap[ub]? = some (.cells #[c0, c1, c2, c3, c4, c5, vS, vD] 126 (0, 0)) ∧ w'.ownsRow w.heap.size 185 2 vS (R.editsS ts st).1.1.length (R.fdCells (R.editsS ts st).1.1) ∧ w'.ownsRow w.heap.size 9 1 vD (R.editsS ts st).1.2.length (R.strCells (R.editsS ts st).1.2) := by
  obtain ⟨i0, hi, hz0, hz1, hz2⟩ := info_parts info_fd
  obtain ⟨i1, hj, hj0, hj1, hj2⟩ := info_parts info_str
  have HP : Hid (R.editsS ts st = (((R.stLoop ts (ts.length + 1) st []).1, (R.dpLoop ts ((R.stLoop ts (ts.length + 1) st []).1.map Prod.fst) (ts.length + 1) (R.stLoop ts (ts.length + 1) st []).2 []).1),
   (R.dpLoop ts ((R.stLoop ts (ts.length + 1) st []).1.map Prod.fst) (ts.length + 1) (R.stLoop ts (ts.length + 1) st []).2 []).2)) := rfl
  have H0 : Hid _ := h
  have HU0 : Hid _ := hu
  have brb : rb < w.heap.size := block_lt h.rd
  have hgl : g < w.heap.size := h.gl
  have hul : ub < w.heap.size := block_lt hu
  generalize R.editsS ts st = r at *
  generalize hq : R.stLoop ts (ts.length + 1) st [] = q at *
  have HQ : Hid _ := hq
  clear h hu hq
  go_enter Tryz.func136, Tryz.ntmps136
  go_wp2_with fail
  go_loopw [4, 5] (fun v iv wr => ∃ (n : Nat) (acc : List (List UInt8 × List UInt8)) (s : R.St) (vS : Value), iv = .int .i64 acc.length ∧ acc.length ≤ s.K ∧ s.K < ts.length ∧ ts.length < n + s.K ∧ Hid (R.stLoop ts n s acc = q) ∧ Hid (RInv wr rb g cap ts s H) ∧ Hid (Kept2 w wr rb ub) ∧ Hid (wr.heap[ub]? = some (.cells #[c0, c1, c2, c3, c4, c5, vS, .slice none 0 0] 126 (0, 0))) ∧
      Hid (wr.ownsRow w.heap.size 185 2 vS acc.length (R.fdCells acc)) ∧ Hid (wr.ownsRow w.heap.size 9 1 v acc.length (R.strCells (acc.map Prod.fst)))) (fun _ iv _ => ts.length + 1 - (intOf iv).toNat)
  case atStart => exact ⟨ts.length + 1, [], st, _, rfl, Nat.zero_le _, H0.out.lt, by omega, HQ.out, H0, Kept2.refl _ _ _, HU0, World.ownsRow_nil _ _ _ _, World.ownsRow_nil _ _ _ _⟩
  case round =>
    obtain ⟨n, acc, s, vS, rfl, haK, hKl, hn, HL, IR, HR, HU, HS, HA⟩ := hrel
    have bwr : rb < wr.heap.size := block_lt IR.out.rd
    have zwr : w.heap.size ≤ wr.heap.size := HR.out.size
    have hts := IR.out.ok.len
    obtain ⟨n, rfl⟩ : ∃ m, n = m + 1 := ⟨n - 1, by omega⟩
    have HL1 := HL.out
    rw [R.stLoop] at HL1
    have UB_ : Hid _ := HU.out
    have HS_L0 : Hid _ := HS.out
    have HA_L0 : Hid _ := HA.out
    go_wp2_with fail
    refine (ref_isS IR.out _).mono ?_
    rintro e wL1 ⟨rfl, ggL1⟩
    have hgL1 := grown_wide ggL1 (some rb)
    have JL1 : Hid _ := (IR.out).keep ggL1
    have bL1 : rb < wL1.heap.size := block_lt JL1.out.rd
    have sL1 : wr.heap.size + 0 ≤ wL1.heap.size := by have h := hgL1.size; simpa using h
    have GL1 : Hid (wr.grownBy wL1 (some rb)) := hgL1
    have CL1 : Hid (Kept2 w wL1 rb ub) := HR.out.step GL1.out
    have zL1 : w.heap.size ≤ wL1.heap.size := CL1.out.size
    have UB_L1 : Hid (wL1.heap[ub]? = some (.cells #[c0, c1, c2, c3, c4, c5, vS, .slice none 0 0] 126 (0, 0))) := keep_block UB_.out GL1.out (by simp; omega)
    have HS_L1 : Hid _ := own_kept HS_L0.out GL1.out (by omega)
    have HA_L1 : Hid _ := own_kept HA_L0.out GL1.out (by omega)
    clear hgL1 ggL1
    rw [show (⟨#[115, 101, 116]⟩ : ByteArray).data.toList = R.wSet from rfl]
    cases hgo : R.isB s (R.cur ts s) R.wSet
    · rw [if_neg (by rw [hgo]; simp)] at HL1
      have HQ1 : Hid (q.1 = acc) := by rw [← HL1]; rfl
      have HQ2 : Hid (q.2 = s) := by rw [← HL1]; rfl
      clear HL1 HL
      rw [HQ1.out, HQ2.out] at HP
      generalize hq2 : R.dpLoop ts (acc.map Prod.fst) (ts.length + 1) s [] = q2 at *
      have HQ3 : Hid _ := hq2
      clear hq2
      go_wp2_with fail
      go_loopw [4, 9] (fun v iv wx => ∃ (n2 : Nat) (ac2 : List (List UInt8)) (s2 : R.St) (vD : Value), iv = .int .i64 ac2.length ∧ ac2.length ≤ s2.K ∧ s2.K < ts.length ∧ ts.length < n2 + s2.K ∧ Hid (R.dpLoop ts (acc.map Prod.fst) n2 s2 ac2 = q2) ∧ Hid (RInv wx rb g cap ts s2 H) ∧ Hid (Kept2 w wx rb ub) ∧ Hid (wx.heap[ub]? = some (.cells #[c0, c1, c2, c3, c4, c5, vS, vD] 126 (0, 0))) ∧
          Hid (wx.ownsRow w.heap.size 185 2 vS acc.length (R.fdCells acc)) ∧ Hid (wx.ownsRow w.heap.size 9 1 v (acc.length + ac2.length) (R.strCells (acc.map Prod.fst ++ ac2))) ∧ Hid (wx.ownsRow w.heap.size 9 1 vD ac2.length (R.strCells ac2)) ∧ Hid (∀ k, v.ownBlock = some k → vD.ownBlock ≠ some k)) (fun _ iv _ => ts.length + 1 - (intOf iv).toNat)
      case atStart => exact ⟨ts.length + 1, [], s, _, rfl, Nat.zero_le _, hKl, by omega, HQ3.out, JL1, CL1, UB_L1, HS_L1, by rw [List.append_nil]; exact HA_L1.out, World.ownsRow_nil _ _ _ _, by intro k _ hk; simp [Value.ownBlock] at hk⟩
      case round =>
        obtain ⟨n2, ac2, s2, vD, rfl, haK2, hKl2, hn2, HLD, IX, HX, HUX, HSX, HAX, HDX, DIS⟩ := hrel
        have bwx : rb < wr.heap.size := block_lt IX.out.rd
        have zwx : w.heap.size ≤ wr.heap.size := HX.out.size
        obtain ⟨n2, rfl⟩ : ∃ m, n2 = m + 1 := ⟨n2 - 1, by omega⟩
        have HL1 := HLD.out
        rw [R.dpLoop] at HL1
        have UB_x : Hid _ := HUX.out
        have HS_D0 : Hid _ := HSX.out
        have HA_D0 : Hid _ := HAX.out
        have HD_D0 : Hid _ := HDX.out
        go_wp2_with fail
        refine (ref_isS IX.out _).mono ?_
        rintro e wD1 ⟨rfl, ggD1⟩
        have hgD1 := grown_wide ggD1 (some rb)
        have JD1 : Hid _ := (IX.out).keep ggD1
        have bD1 : rb < wD1.heap.size := block_lt JD1.out.rd
        have sD1 : wr.heap.size + 0 ≤ wD1.heap.size := by have h := hgD1.size; simpa using h
        have GD1 : Hid (wr.grownBy wD1 (some rb)) := hgD1
        have CD1 : Hid (Kept2 w wD1 rb ub) := HX.out.step GD1.out
        have zD1 : w.heap.size ≤ wD1.heap.size := CD1.out.size
        have UB_D1 : Hid (wD1.heap[ub]? = some (.cells #[c0, c1, c2, c3, c4, c5, vS, vD] 126 (0, 0))) := keep_block UB_x.out GD1.out (by simp; omega)
        have HS_D1 : Hid _ := own_kept HS_D0.out GD1.out (by omega)
        have HA_D1 : Hid _ := own_kept HA_D0.out GD1.out (by omega)
        have HD_D1 : Hid _ := own_kept HD_D0.out GD1.out (by omega)
        clear hgD1 ggD1
        rw [show (⟨#[100, 114, 111, 112]⟩ : ByteArray).data.toList = R.wDrop from rfl]
        cases hgo2 : R.isB s2 (R.cur ts s2) R.wDrop
        · rw [if_neg (by rw [hgo2]; simp)] at HL1
          have HF1 : Hid (q2.1 = ac2) := by rw [← HL1]; rfl
          have HF2 : Hid (q2.2 = s2) := by rw [← HL1]; rfl
          go_wp2
          go_end0
          exact ⟨rfl, by rw [HP.out, HF2.out]; exact JD1.out, CD1.out, _, _, UB_D1.out, by rw [HP.out]; exact HS_D1.out, by rw [HP.out, HF1.out]; exact HD_D1.out⟩
        · rw [if_pos (by rw [hgo2])] at HL1
          have hKr := R.dpRound_K ts s2 (acc.map Prod.fst) ac2 hgo2
          have HRd1 : Hid ((R.dpRound ts s2 (acc.map Prod.fst) ac2).1 = R.needS ts (R.dpA ts s2 ac2.length (acc.map Prod.fst ++ ac2)).2 [59]) := rfl
          have HRd2 : Hid ((R.dpRound ts s2 (acc.map Prod.fst) ac2).2 = ac2 ++ [(R.dpA ts s2 ac2.length (acc.map Prod.fst ++ ac2)).1]) := rfl
          have hrl : (R.dpRound ts s2 (acc.map Prod.fst) ac2).2.length = ac2.length + 1 := by rw [HRd2.out]; simp
          generalize R.dpRound ts s2 (acc.map Prod.fst) ac2 = rr at *
          obtain ⟨s5, acc5⟩ := rr
          simp only at HL1 hKr HRd1 HRd2 hrl
          have HL2 : Hid _ := HL1
          clear HL1 HLD
          go_wp2_with fail
          refine (ref_needS JD1.out _).mono ?_
          rintro e wDy1 ⟨rfl, IDy1, hgDy1⟩
          have JDy1 : Hid _ := IDy1
          have bDy1 : rb < wDy1.heap.size := block_lt JDy1.out.rd
          have sDy1 : wD1.heap.size + 0 ≤ wDy1.heap.size := by have h := hgDy1.size; simpa using h
          have GDy1 : Hid (wD1.grownBy wDy1 (some rb)) := hgDy1
          have CDy1 : Hid (Kept2 w wDy1 rb ub) := CD1.out.step GDy1.out
          have zDy1 : w.heap.size ≤ wDy1.heap.size := CDy1.out.size
          have UB_Dy1 : Hid (wDy1.heap[ub]? = some (.cells #[c0, c1, c2, c3, c4, c5, vS, vD] 126 (0, 0))) := keep_block UB_D1.out GDy1.out (by simp; omega)
          have HS_Dy1 : Hid _ := own_kept HS_D1.out GDy1.out (by omega)
          have HA_Dy1 : Hid _ := own_kept HA_D1.out GDy1.out (by omega)
          have HD_Dy1 : Hid _ := own_kept HD_D1.out GDy1.out (by omega)
          clear hgDy1 IDy1
          go_wp2_with fail
          refine (ref_not (JDy1.out.keep (World.grownBy_alloc _ _ _)) _ _ _ _ _).mono ?_
          rintro e wDy2 ⟨rfl, IDy2, hgDy2⟩
          have JDy2 : Hid _ := IDy2
          have bDy2 : rb < wDy2.heap.size := block_lt JDy2.out.rd
          have sDy2 : wDy1.heap.size + 1 ≤ wDy2.heap.size := by have h := hgDy2.size; simpa using h
          have GDy2 : Hid (wDy1.grownBy wDy2 (some rb)) := (grown_trans (World.grownBy_alloc _ _ _) hgDy2)
          have CDy2 : Hid (Kept2 w wDy2 rb ub) := CDy1.out.step GDy2.out
          have zDy2 : w.heap.size ≤ wDy2.heap.size := CDy2.out.size
          have UB_Dy2 : Hid (wDy2.heap[ub]? = some (.cells #[c0, c1, c2, c3, c4, c5, vS, vD] 126 (0, 0))) := keep_block UB_Dy1.out GDy2.out (by simp; omega)
          have HS_Dy2 : Hid _ := own_kept HS_Dy1.out GDy2.out (by omega)
          have HA_Dy2 : Hid _ := own_kept HA_Dy1.out GDy2.out (by omega)
          have HD_Dy2 : Hid _ := own_kept HD_Dy1.out GDy2.out (by omega)
          clear hgDy2 IDy2
          have hml : (acc.map Prod.fst ++ ac2).length ≤ 10000 := by rw [List.length_append, List.length_map]; omega
          have HSR : Hid (StrRow wDy2 u4 (acc.map Prod.fst ++ ac2)) := by show World.ownsRow _ _ _ _ _ _ _; rw [List.length_append, List.length_map]; exact row_base HA_Dy2.out (Nat.zero_le _)
          go_wp2_with fail
          refine (ref_header JDy2.out u4 (acc.map Prod.fst ++ ac2) HSR.out hml (fun c => by have := (World.ownsRow.lt HA_Dy2.out rb c).1; omega)).mono ?_
          rintro e wDy3 ⟨rfl, IDy3, hgDy3⟩
          have JDy3 : Hid _ := IDy3
          have bDy3 : rb < wDy3.heap.size := block_lt JDy3.out.rd
          have sDy3 : wDy2.heap.size + 0 ≤ wDy3.heap.size := by have h := hgDy3.size; simpa using h
          have GDy3 : Hid (wDy2.grownBy wDy3 (some rb)) := hgDy3
          have CDy3 : Hid (Kept2 w wDy3 rb ub) := CDy2.out.step GDy3.out
          have zDy3 : w.heap.size ≤ wDy3.heap.size := CDy3.out.size
          have UB_Dy3 : Hid (wDy3.heap[ub]? = some (.cells #[c0, c1, c2, c3, c4, c5, vS, vD] 126 (0, 0))) := keep_block UB_Dy2.out GDy3.out (by simp; omega)
          have HS_Dy3 : Hid _ := own_kept HS_Dy2.out GDy3.out (by omega)
          have HA_Dy3 : Hid _ := own_kept HA_Dy2.out GDy3.out (by omega)
          have HD_Dy3 : Hid _ := own_kept HD_Dy2.out GDy3.out (by omega)
          clear hgDy3 IDy3
          have JA : Hid (RInv wDy3 rb g cap ts (R.dpA ts s2 ac2.length (acc.map Prod.fst ++ ac2)).2 H) := JDy3
          rw [show (R.headerS ts (R.notS (R.needS ts s2 (⟨#[100, 114, 111, 112]⟩ : ByteArray).data.toList) (decide ((ac2.length : Int) < 3)) 3 ((R.cur ts s2).at_ : Int)) (acc.map Prod.fst ++ ac2)).1 = (R.dpA ts s2 ac2.length (acc.map Prod.fst ++ ac2)).1 from rfl]
          generalize R.dpA ts s2 ac2.length (acc.map Prod.fst ++ ac2) = pa at *
          obtain ⟨nm, s3⟩ := pa
          simp only at JA HRd1 HRd2 ⊢
          go_wp2_with (at_builtin; refine wpList_append_lies _ rfl _ _ 22 rfl (w.heap.size) 9 i1 _ 1 16 Tryz.underlying22 hj hj0 hj1 hj2 rfl (by decide) _ _ _ rfl (World.ownsRow.alloc HA_Dy3.out _) ⟨wDy3.heap.size, 0, none⟩ 1 1 [.string (R.str nm)] rfl rfl ?c1 ?c2 (by decide) ?c3 ?c4 ?c5 (wDy3.heap.size + 1) (by simp) ?_)
          case c1 => exact cells_new _ #[_] _ _ (by simp)
          case c2 => intro u hu; simp at hu; subst hu; rfl
          case c3 => unfold maxLen; omega
          case c4 => omega
          case c5 => have := CDy3.out.size; simp; omega
          intro gDy4 capDy4 wDy4 hownDy4 hgrowDy4 hatDy4 _
          have HA_Dy4 : Hid (wDy4.ownsRow w.heap.size 9 1 (.slice (some ⟨gDy4, 0, none⟩) (acc.length + ac2.length + 1) capDy4) (acc.length + ac2.length + 1) (R.strCells (acc.map Prod.fst ++ ac2 ++ [nm]))) := by rw [R.strCells_snoc]; exact hownDy4
          have farDy4 : ∀ k, (u4 : Value).ownBlock = some k → w.heap.size ≤ k := fun k hk => (World.ownsRow.lt HA_Dy3.out k hk).1
          have nearDy4 : ∀ k, (u4 : Value).ownBlock = some k → k < wDy3.heap.size := fun k hk => (World.ownsRow.lt HA_Dy3.out k hk).2
          have JDy4 : Hid _ := (JA.out.keep (World.grownBy_alloc _ _ _)).away hgrowDy4 (fun k hk => by have h1 := farDy4 k hk; exact ⟨by omega, by omega⟩)
          have CDy4 : Hid (Kept2 w wDy4 rb ub) := (CDy3.out.step (World.grownBy_alloc _ _ _)).far hgrowDy4 (fun k hk => by have h1 := farDy4 k hk; omega)
          have bDy4 : rb < wDy4.heap.size := block_lt JDy4.out.rd
          have sDy4 : wDy3.heap.size + 1 ≤ wDy4.heap.size := by have h := hgrowDy4.size; simpa using h
          have zDy4 : w.heap.size ≤ wDy4.heap.size := CDy4.out.size
          have UB_Dy4 : Hid (wDy4.heap[ub]? = some (.cells #[c0, c1, c2, c3, c4, c5, vS, vD] 126 (0, 0))) := keep_away (keep_block UB_Dy3.out (World.grownBy_alloc _ _ none) (by simp)) hgrowDy4 (fun k hk => by have h1 := farDy4 k hk; have h2 := nearDy4 k hk; exact box_apart UB_Dy3.out HA_Dy3.out (by decide) k hk)
          have HS_Dy4 : Hid _ := own_away (World.ownsRow.alloc HS_Dy3.out _) hgrowDy4 (tag_apart HA_Dy3.out HS_Dy3.out (by decide))
          have HD_Dy4 : Hid _ := own_away (World.ownsRow.alloc HD_Dy3.out _) hgrowDy4 (fun k hk c => DIS.out k c hk)
          clear hownDy4 hgrowDy4 farDy4
          have DIS2 : Hid _ := dis_left (n := acc.length + ac2.length + 1) (c := capDy4) DIS.out hatDy4 (fun k hk => by have := (World.ownsRow.lt HD_Dy3.out k hk).2; omega)
          have qul : ub < wDy4.heap.size := block_lt UB_Dy4.out
          have qu7 : wDy4.cell? ⟨ub, 7, none⟩ = some vD := cell_of_block UB_Dy4.out
          have quf7 : wDy4.frozen? ⟨ub, 7, none⟩ = false := frozen_of_block UB_Dy4.out
          go_wp2_with (at_builtin; refine wpList_append_lies _ rfl _ _ 22 rfl (w.heap.size) 9 i1 _ 1 16 Tryz.underlying22 hj hj0 hj1 hj2 rfl (by decide) _ _ _ rfl (World.ownsRow.alloc HD_Dy4.out _) ⟨wDy4.heap.size, 0, none⟩ 1 1 [.string (R.str nm)] rfl rfl ?c1 ?c2 (by decide) ?c3 ?c4 ?c5 (wDy4.heap.size + 1) (by simp) ?_)
          case c1 => exact cells_new _ #[_] _ _ (by simp)
          case c2 => intro u hu; simp at hu; subst hu; rfl
          case c3 => unfold maxLen; omega
          case c4 => omega
          case c5 => have := CDy4.out.size; simp; omega
          intro gDy5 capDy5 wDy5 hownDy5 hgrowDy5 hatDy5 _
          have HD_Dy5 : Hid (wDy5.ownsRow w.heap.size 9 1 (.slice (some ⟨gDy5, 0, none⟩) (ac2.length + 1) capDy5) (ac2 ++ [nm]).length (R.strCells (ac2 ++ [nm]))) := by rw [R.strCells_snoc, List.length_append]; exact hownDy5
          have farDy5 : ∀ k, (vD : Value).ownBlock = some k → w.heap.size ≤ k := fun k hk => (World.ownsRow.lt HD_Dy4.out k hk).1
          have nearDy5 : ∀ k, (vD : Value).ownBlock = some k → k < wDy4.heap.size := fun k hk => (World.ownsRow.lt HD_Dy4.out k hk).2
          have JDy5 : Hid _ := (JDy4.out.keep (World.grownBy_alloc _ _ _)).away hgrowDy5 (fun k hk => by have h1 := farDy5 k hk; exact ⟨by omega, by omega⟩)
          have CDy5 : Hid (Kept2 w wDy5 rb ub) := (CDy4.out.step (World.grownBy_alloc _ _ _)).far hgrowDy5 (fun k hk => by have h1 := farDy5 k hk; omega)
          have bDy5 : rb < wDy5.heap.size := block_lt JDy5.out.rd
          have sDy5 : wDy4.heap.size + 1 ≤ wDy5.heap.size := by have h := hgrowDy5.size; simpa using h
          have zDy5 : w.heap.size ≤ wDy5.heap.size := CDy5.out.size
          have UB_Dy5 : Hid (wDy5.heap[ub]? = some (.cells #[c0, c1, c2, c3, c4, c5, vS, vD] 126 (0, 0))) := keep_away (keep_block UB_Dy4.out (World.grownBy_alloc _ _ none) (by simp)) hgrowDy5 (fun k hk => by have h1 := farDy5 k hk; have h2 := nearDy5 k hk; exact box_apart UB_Dy4.out HD_Dy4.out (by decide) k hk)
          have HS_Dy5 : Hid _ := own_away (World.ownsRow.alloc HS_Dy4.out _) hgrowDy5 (tag_apart HD_Dy4.out HS_Dy4.out (by decide))
          have HA_Dy5 : Hid _ := own_away (World.ownsRow.alloc HA_Dy4.out _) hgrowDy5 (DIS2.out)
          clear hownDy5 hgrowDy5 farDy5
          have DIS4 : Hid _ := dis_right (n := ac2.length + 1) (c := capDy5) DIS2.out hatDy5 (fun k hk => by have := (World.ownsRow.lt HA_Dy4.out k hk).2; omega)
          have qvl : ub < wDy5.heap.size := block_lt UB_Dy5.out
          have qv7 : wDy5.cell? ⟨ub, 7, none⟩ = some vD := cell_of_block UB_Dy5.out
          have qvf7 : wDy5.frozen? ⟨ub, 7, none⟩ = false := frozen_of_block UB_Dy5.out
          go_wp2_with fail
          have JDy6 : Hid _ := JDy5.out.other (grown_setCell wDy5 ub 7 (.slice (some ⟨gDy5, 0, none⟩) (ac2.length + 1) capDy5)) (by omega) (by omega)
          have CDy6 : Hid (Kept2 w (World.setCell wDy5 ⟨ub, 7, none⟩ (.slice (some ⟨gDy5, 0, none⟩) (ac2.length + 1) capDy5)) rb ub) := CDy5.out.own (grown_setCell wDy5 ub 7 (.slice (some ⟨gDy5, 0, none⟩) (ac2.length + 1) capDy5))
          have UB_Dy6 : Hid ((World.setCell wDy5 ⟨ub, 7, none⟩ (.slice (some ⟨gDy5, 0, none⟩) (ac2.length + 1) capDy5)).heap[ub]? = some (.cells #[c0, c1, c2, c3, c4, c5, vS, .slice (some ⟨gDy5, 0, none⟩) (ac2.length + 1) capDy5] 126 (0, 0))) := block_setCell UB_Dy5.out (.slice (some ⟨gDy5, 0, none⟩) (ac2.length + 1) capDy5)
          have HS_Dy6 : Hid _ := own_kept_box HS_Dy5.out (grown_setCell wDy5 ub 7 (.slice (some ⟨gDy5, 0, none⟩) (ac2.length + 1) capDy5)) (box_apart UB_Dy5.out HS_Dy5.out (by decide))
          have HA_Dy6 : Hid _ := own_kept_box HA_Dy5.out (grown_setCell wDy5 ub 7 (.slice (some ⟨gDy5, 0, none⟩) (ac2.length + 1) capDy5)) (box_apart UB_Dy5.out HA_Dy5.out (by decide))
          have HD_Dy6 : Hid _ := own_kept_box HD_Dy5.out (grown_setCell wDy5 ub 7 (.slice (some ⟨gDy5, 0, none⟩) (ac2.length + 1) capDy5)) (box_apart UB_Dy5.out HD_Dy5.out (by decide))
          have sDy6 : wDy5.heap.size ≤ (World.setCell wDy5 ⟨ub, 7, none⟩ (.slice (some ⟨gDy5, 0, none⟩) (ac2.length + 1) capDy5)).heap.size := by simp [World.setCell]
          have yDy6 : (World.setCell wDy5 ⟨ub, 7, none⟩ (.slice (some ⟨gDy5, 0, none⟩) (ac2.length + 1) capDy5)).heap.size ≤ wDy5.heap.size := by simp [World.setCell]
          generalize (World.setCell wDy5 ⟨ub, 7, none⟩ (.slice (some ⟨gDy5, 0, none⟩) (ac2.length + 1) capDy5)) = wDy6 at *
          have bDy6 : rb < wDy6.heap.size := by omega
          refine (ref_needS JDy6.out _).mono ?_
          rintro e wDy7 ⟨rfl, IDy7, hgDy7⟩
          have JDy7 : Hid _ := IDy7
          have bDy7 : rb < wDy7.heap.size := block_lt JDy7.out.rd
          have sDy7 : wDy6.heap.size + 0 ≤ wDy7.heap.size := by have h := hgDy7.size; simpa using h
          have GDy7 : Hid (wDy6.grownBy wDy7 (some rb)) := hgDy7
          have CDy7 : Hid (Kept2 w wDy7 rb ub) := CDy6.out.step GDy7.out
          have zDy7 : w.heap.size ≤ wDy7.heap.size := CDy7.out.size
          have UB_Dy7 : Hid (wDy7.heap[ub]? = some (.cells #[c0, c1, c2, c3, c4, c5, vS, .slice (some ⟨gDy5, 0, none⟩) (ac2.length + 1) capDy5] 126 (0, 0))) := keep_block UB_Dy6.out GDy7.out (by simp; omega)
          have HS_Dy7 : Hid _ := own_kept HS_Dy6.out GDy7.out (by omega)
          have HA_Dy7 : Hid _ := own_kept HA_Dy6.out GDy7.out (by omega)
          have HD_Dy7 : Hid _ := own_kept HD_Dy6.out GDy7.out (by omega)
          clear hgDy7 IDy7
          go_wp2
          go_roundw
          case rel => exact ⟨n2, acc5, s5, _, by rw [hrl]; go_num, by omega, by rw [HRd1.out]; exact JDy7.out.lt, by omega, HL2, by rw [HRd1.out]; exact JDy7.out, CDy7, UB_Dy7, HS_Dy7, by rw [hrl, HRd2.out, ← List.append_assoc]; exact HA_Dy7.out, by rw [HRd2.out]; exact HD_Dy7.out, DIS4⟩
          case measure => simp [intOf]; omega
    · rw [if_pos (by rw [hgo])] at HL1
      have hKr := R.stRound_K ts s acc hgo
      have HRd1 : Hid ((R.stRound ts s acc).1 = R.needS ts (R.valueS ts (R.stA ts s acc.length (acc.map Prod.fst)).2).2 [59]) := rfl
      have HRd2 : Hid ((R.stRound ts s acc).2 = acc ++ [((R.stA ts s acc.length (acc.map Prod.fst)).1, (R.valueS ts (R.stA ts s acc.length (acc.map Prod.fst)).2).1)]) := rfl
      have hrl : (R.stRound ts s acc).2.length = acc.length + 1 := by rw [HRd2.out]; simp
      generalize R.stRound ts s acc = rr at *
      obtain ⟨s5, acc5⟩ := rr
      simp only at HL1 hKr HRd1 HRd2 hrl
      have HL2 : Hid _ := HL1
      clear HL1 HL
      go_wp2_with fail
      refine (ref_needS JL1.out _).mono ?_
      rintro e wLy1 ⟨rfl, ILy1, hgLy1⟩
      have JLy1 : Hid _ := ILy1
      have bLy1 : rb < wLy1.heap.size := block_lt JLy1.out.rd
      have sLy1 : wL1.heap.size + 0 ≤ wLy1.heap.size := by have h := hgLy1.size; simpa using h
      have GLy1 : Hid (wL1.grownBy wLy1 (some rb)) := hgLy1
      have CLy1 : Hid (Kept2 w wLy1 rb ub) := CL1.out.step GLy1.out
      have zLy1 : w.heap.size ≤ wLy1.heap.size := CLy1.out.size
      have UB_Ly1 : Hid (wLy1.heap[ub]? = some (.cells #[c0, c1, c2, c3, c4, c5, vS, .slice none 0 0] 126 (0, 0))) := keep_block UB_L1.out GLy1.out (by simp; omega)
      have HS_Ly1 : Hid _ := own_kept HS_L1.out GLy1.out (by omega)
      have HA_Ly1 : Hid _ := own_kept HA_L1.out GLy1.out (by omega)
      clear hgLy1 ILy1
      go_wp2_with fail
      refine (ref_not (JLy1.out.keep (World.grownBy_alloc _ _ _)) _ _ _ _ _).mono ?_
      rintro e wLy2 ⟨rfl, ILy2, hgLy2⟩
      have JLy2 : Hid _ := ILy2
      have bLy2 : rb < wLy2.heap.size := block_lt JLy2.out.rd
      have sLy2 : wLy1.heap.size + 1 ≤ wLy2.heap.size := by have h := hgLy2.size; simpa using h
      have GLy2 : Hid (wLy1.grownBy wLy2 (some rb)) := (grown_trans (World.grownBy_alloc _ _ _) hgLy2)
      have CLy2 : Hid (Kept2 w wLy2 rb ub) := CLy1.out.step GLy2.out
      have zLy2 : w.heap.size ≤ wLy2.heap.size := CLy2.out.size
      have UB_Ly2 : Hid (wLy2.heap[ub]? = some (.cells #[c0, c1, c2, c3, c4, c5, vS, .slice none 0 0] 126 (0, 0))) := keep_block UB_Ly1.out GLy2.out (by simp; omega)
      have HS_Ly2 : Hid _ := own_kept HS_Ly1.out GLy2.out (by omega)
      have HA_Ly2 : Hid _ := own_kept HA_Ly1.out GLy2.out (by omega)
      clear hgLy2 ILy2
      have hml : (acc.map Prod.fst).length ≤ 10000 := by rw [List.length_map]; omega
      have HSR : Hid (StrRow wLy2 u4 (acc.map Prod.fst)) := by show World.ownsRow _ _ _ _ _ _ _; rw [List.length_map]; exact row_base HA_Ly2.out (Nat.zero_le _)
      go_wp2_with fail
      refine (ref_header JLy2.out u4 (acc.map Prod.fst) HSR.out hml (fun c => by have := (World.ownsRow.lt HA_Ly2.out rb c).1; omega)).mono ?_
      rintro e wLy3 ⟨rfl, ILy3, hgLy3⟩
      have JLy3 : Hid _ := ILy3
      have bLy3 : rb < wLy3.heap.size := block_lt JLy3.out.rd
      have sLy3 : wLy2.heap.size + 0 ≤ wLy3.heap.size := by have h := hgLy3.size; simpa using h
      have GLy3 : Hid (wLy2.grownBy wLy3 (some rb)) := hgLy3
      have CLy3 : Hid (Kept2 w wLy3 rb ub) := CLy2.out.step GLy3.out
      have zLy3 : w.heap.size ≤ wLy3.heap.size := CLy3.out.size
      have UB_Ly3 : Hid (wLy3.heap[ub]? = some (.cells #[c0, c1, c2, c3, c4, c5, vS, .slice none 0 0] 126 (0, 0))) := keep_block UB_Ly2.out GLy3.out (by simp; omega)
      have HS_Ly3 : Hid _ := own_kept HS_Ly2.out GLy3.out (by omega)
      have HA_Ly3 : Hid _ := own_kept HA_Ly2.out GLy3.out (by omega)
      clear hgLy3 ILy3
      have JA : Hid (RInv wLy3 rb g cap ts (R.stA ts s acc.length (acc.map Prod.fst)).2 H) := JLy3
      rw [show (R.headerS ts (R.notS (R.needS ts s (⟨#[115, 101, 116]⟩ : ByteArray).data.toList) (decide ((acc.length : Int) < 3)) 3 ((R.cur ts s).at_ : Int)) (acc.map Prod.fst)).1 = (R.stA ts s acc.length (acc.map Prod.fst)).1 from rfl]
      generalize R.stA ts s acc.length (acc.map Prod.fst) = pa at *
      obtain ⟨nm, s3⟩ := pa
      simp only at JA HRd1 HRd2 ⊢
      go_wp2_with (at_builtin; refine wpList_append_lies _ rfl _ _ 22 rfl (w.heap.size) 9 i1 _ 1 16 Tryz.underlying22 hj hj0 hj1 hj2 rfl (by decide) _ _ _ rfl (World.ownsRow.alloc HA_Ly3.out _) ⟨wLy3.heap.size, 0, none⟩ 1 1 [.string (R.str nm)] rfl rfl ?c1 ?c2 (by decide) ?c3 ?c4 ?c5 (wLy3.heap.size + 1) (by simp) ?_)
      case c1 => exact cells_new _ #[_] _ _ (by simp)
      case c2 => intro u hu; simp at hu; subst hu; rfl
      case c3 => unfold maxLen; omega
      case c4 => omega
      case c5 => have := CLy3.out.size; simp; omega
      intro gLy4 capLy4 wLy4 hownLy4 hgrowLy4 hatLy4 _
      have HA_Ly4 : Hid (wLy4.ownsRow w.heap.size 9 1 (.slice (some ⟨gLy4, 0, none⟩) (acc.length + 1) capLy4) (acc.length + 1) (R.strCells (acc.map Prod.fst ++ [nm]))) := by rw [R.strCells_snoc]; exact hownLy4
      have farLy4 : ∀ k, (u4 : Value).ownBlock = some k → w.heap.size ≤ k := fun k hk => (World.ownsRow.lt HA_Ly3.out k hk).1
      have nearLy4 : ∀ k, (u4 : Value).ownBlock = some k → k < wLy3.heap.size := fun k hk => (World.ownsRow.lt HA_Ly3.out k hk).2
      have JLy4 : Hid _ := (JA.out.keep (World.grownBy_alloc _ _ _)).away hgrowLy4 (fun k hk => by have h1 := farLy4 k hk; exact ⟨by omega, by omega⟩)
      have CLy4 : Hid (Kept2 w wLy4 rb ub) := (CLy3.out.step (World.grownBy_alloc _ _ _)).far hgrowLy4 (fun k hk => by have h1 := farLy4 k hk; omega)
      have bLy4 : rb < wLy4.heap.size := block_lt JLy4.out.rd
      have sLy4 : wLy3.heap.size + 1 ≤ wLy4.heap.size := by have h := hgrowLy4.size; simpa using h
      have zLy4 : w.heap.size ≤ wLy4.heap.size := CLy4.out.size
      have UB_Ly4 : Hid (wLy4.heap[ub]? = some (.cells #[c0, c1, c2, c3, c4, c5, vS, .slice none 0 0] 126 (0, 0))) := keep_away (keep_block UB_Ly3.out (World.grownBy_alloc _ _ none) (by simp)) hgrowLy4 (fun k hk => by have h1 := farLy4 k hk; have h2 := nearLy4 k hk; exact box_apart UB_Ly3.out HA_Ly3.out (by decide) k hk)
      have HS_Ly4 : Hid _ := own_away (World.ownsRow.alloc HS_Ly3.out _) hgrowLy4 (tag_apart HA_Ly3.out HS_Ly3.out (by decide))
      clear hownLy4 hgrowLy4 farLy4
      go_wp2_with fail
      refine (ref_value JLy4.out).mono ?_
      rintro e wLy5 ⟨rfl, ILy5, hgLy5⟩
      have JLy5 : Hid _ := ILy5
      have bLy5 : rb < wLy5.heap.size := block_lt JLy5.out.rd
      have sLy5 : wLy4.heap.size + 0 ≤ wLy5.heap.size := by have h := hgLy5.size; simpa using h
      have GLy5 : Hid (wLy4.grownBy wLy5 (some rb)) := hgLy5
      have CLy5 : Hid (Kept2 w wLy5 rb ub) := CLy4.out.step GLy5.out
      have zLy5 : w.heap.size ≤ wLy5.heap.size := CLy5.out.size
      have UB_Ly5 : Hid (wLy5.heap[ub]? = some (.cells #[c0, c1, c2, c3, c4, c5, vS, .slice none 0 0] 126 (0, 0))) := keep_block UB_Ly4.out GLy5.out (by simp; omega)
      have HS_Ly5 : Hid _ := own_kept HS_Ly4.out GLy5.out (by omega)
      have HA_Ly5 : Hid _ := own_kept HA_Ly4.out GLy5.out (by omega)
      clear hgLy5 ILy5
      have qul : ub < wLy5.heap.size := block_lt UB_Ly5.out
      have qu6 : wLy5.cell? ⟨ub, 6, none⟩ = some vS := cell_of_block UB_Ly5.out
      have quf6 : wLy5.frozen? ⟨ub, 6, none⟩ = false := frozen_of_block UB_Ly5.out
      go_wp2_with (at_builtin; refine wpList_append_lies _ rfl _ _ 124 rfl (w.heap.size) 185 i0 _ 2 32 Tryz.underlying124 hi hz0 hz1 hz2 rfl (by decide) _ _ _ rfl (World.ownsRow.alloc HS_Ly5.out _) ⟨wLy5.heap.size, 0, none⟩ 1 1 [.string (R.str nm), .string (R.str (R.valueS ts s3).1)] rfl rfl ?c1 ?c2 (by decide) ?c3 ?c4 ?c5 (wLy5.heap.size + 1) (by simp) ?_)
      case c1 => exact cells_new _ #[_, _] _ _ (by simp)
      case c2 => intro u hu; simp at hu; rcases hu with rfl | rfl <;> rfl
      case c3 => unfold maxLen; omega
      case c4 => omega
      case c5 => have := CLy5.out.size; simp; omega
      intro gLy6 capLy6 wLy6 hownLy6 hgrowLy6 hatLy6 _
      have HS_Ly6 : Hid (wLy6.ownsRow w.heap.size 185 2 (.slice (some ⟨gLy6, 0, none⟩) (acc.length + 1) capLy6) (acc ++ [(nm, (R.valueS ts s3).1)]).length (R.fdCells (acc ++ [(nm, (R.valueS ts s3).1)]))) := by rw [R.fdCells_snoc, List.length_append]; exact hownLy6
      have farLy6 : ∀ k, (vS : Value).ownBlock = some k → w.heap.size ≤ k := fun k hk => (World.ownsRow.lt HS_Ly5.out k hk).1
      have nearLy6 : ∀ k, (vS : Value).ownBlock = some k → k < wLy5.heap.size := fun k hk => (World.ownsRow.lt HS_Ly5.out k hk).2
      have JLy6 : Hid _ := (JLy5.out.keep (World.grownBy_alloc _ _ _)).away hgrowLy6 (fun k hk => by have h1 := farLy6 k hk; exact ⟨by omega, by omega⟩)
      have CLy6 : Hid (Kept2 w wLy6 rb ub) := (CLy5.out.step (World.grownBy_alloc _ _ _)).far hgrowLy6 (fun k hk => by have h1 := farLy6 k hk; omega)
      have bLy6 : rb < wLy6.heap.size := block_lt JLy6.out.rd
      have sLy6 : wLy5.heap.size + 1 ≤ wLy6.heap.size := by have h := hgrowLy6.size; simpa using h
      have zLy6 : w.heap.size ≤ wLy6.heap.size := CLy6.out.size
      have UB_Ly6 : Hid (wLy6.heap[ub]? = some (.cells #[c0, c1, c2, c3, c4, c5, vS, .slice none 0 0] 126 (0, 0))) := keep_away (keep_block UB_Ly5.out (World.grownBy_alloc _ _ none) (by simp)) hgrowLy6 (fun k hk => by have h1 := farLy6 k hk; have h2 := nearLy6 k hk; exact box_apart UB_Ly5.out HS_Ly5.out (by decide) k hk)
      have HA_Ly6 : Hid _ := own_away (World.ownsRow.alloc HA_Ly5.out _) hgrowLy6 (tag_apart HS_Ly5.out HA_Ly5.out (by decide))
      clear hownLy6 hgrowLy6 farLy6
      have qvl : ub < wLy6.heap.size := block_lt UB_Ly6.out
      have qv6 : wLy6.cell? ⟨ub, 6, none⟩ = some vS := cell_of_block UB_Ly6.out
      have qvf6 : wLy6.frozen? ⟨ub, 6, none⟩ = false := frozen_of_block UB_Ly6.out
      go_wp2_with fail
      have JLy7 : Hid _ := JLy6.out.other (grown_setCell wLy6 ub 6 (.slice (some ⟨gLy6, 0, none⟩) (acc.length + 1) capLy6)) (by omega) (by omega)
      have CLy7 : Hid (Kept2 w (World.setCell wLy6 ⟨ub, 6, none⟩ (.slice (some ⟨gLy6, 0, none⟩) (acc.length + 1) capLy6)) rb ub) := CLy6.out.own (grown_setCell wLy6 ub 6 (.slice (some ⟨gLy6, 0, none⟩) (acc.length + 1) capLy6))
      have UB_Ly7 : Hid ((World.setCell wLy6 ⟨ub, 6, none⟩ (.slice (some ⟨gLy6, 0, none⟩) (acc.length + 1) capLy6)).heap[ub]? = some (.cells #[c0, c1, c2, c3, c4, c5, .slice (some ⟨gLy6, 0, none⟩) (acc.length + 1) capLy6, .slice none 0 0] 126 (0, 0))) := block_setCell UB_Ly6.out (.slice (some ⟨gLy6, 0, none⟩) (acc.length + 1) capLy6)
      have HS_Ly7 : Hid _ := own_kept_box HS_Ly6.out (grown_setCell wLy6 ub 6 (.slice (some ⟨gLy6, 0, none⟩) (acc.length + 1) capLy6)) (box_apart UB_Ly6.out HS_Ly6.out (by decide))
      have HA_Ly7 : Hid _ := own_kept_box HA_Ly6.out (grown_setCell wLy6 ub 6 (.slice (some ⟨gLy6, 0, none⟩) (acc.length + 1) capLy6)) (box_apart UB_Ly6.out HA_Ly6.out (by decide))
      have sLy7 : wLy6.heap.size ≤ (World.setCell wLy6 ⟨ub, 6, none⟩ (.slice (some ⟨gLy6, 0, none⟩) (acc.length + 1) capLy6)).heap.size := by simp [World.setCell]
      have yLy7 : (World.setCell wLy6 ⟨ub, 6, none⟩ (.slice (some ⟨gLy6, 0, none⟩) (acc.length + 1) capLy6)).heap.size ≤ wLy6.heap.size := by simp [World.setCell]
      generalize (World.setCell wLy6 ⟨ub, 6, none⟩ (.slice (some ⟨gLy6, 0, none⟩) (acc.length + 1) capLy6)) = wLy7 at *
      have bLy7 : rb < wLy7.heap.size := by omega
      refine (ref_needS JLy7.out _).mono ?_
      rintro e wLy8 ⟨rfl, ILy8, hgLy8⟩
      have JLy8 : Hid _ := ILy8
      have bLy8 : rb < wLy8.heap.size := block_lt JLy8.out.rd
      have sLy8 : wLy7.heap.size + 0 ≤ wLy8.heap.size := by have h := hgLy8.size; simpa using h
      have GLy8 : Hid (wLy7.grownBy wLy8 (some rb)) := hgLy8
      have CLy8 : Hid (Kept2 w wLy8 rb ub) := CLy7.out.step GLy8.out
      have zLy8 : w.heap.size ≤ wLy8.heap.size := CLy8.out.size
      have UB_Ly8 : Hid (wLy8.heap[ub]? = some (.cells #[c0, c1, c2, c3, c4, c5, .slice (some ⟨gLy6, 0, none⟩) (acc.length + 1) capLy6, .slice none 0 0] 126 (0, 0))) := keep_block UB_Ly7.out GLy8.out (by simp; omega)
      have HS_Ly8 : Hid _ := own_kept HS_Ly7.out GLy8.out (by omega)
      have HA_Ly8 : Hid _ := own_kept HA_Ly7.out GLy8.out (by omega)
      clear hgLy8 ILy8
      go_wp2
      go_roundw
      case rel => exact ⟨n, acc5, s5, _, by rw [hrl]; go_num, by omega, by rw [HRd1.out]; exact JLy8.out.lt, by omega, HL2, by rw [HRd1.out]; exact JLy8.out, CLy8, UB_Ly8, by rw [HRd2.out]; exact HS_Ly8.out, by rw [hrl, HRd2.out, List.map_append]; exact HA_Ly8.out⟩
      case measure => simp [intOf]; omega

end Go.Proofs.YtfocdefchbnkpaaGreatDoor
