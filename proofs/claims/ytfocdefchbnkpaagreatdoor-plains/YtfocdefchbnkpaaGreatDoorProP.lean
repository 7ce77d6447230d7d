/- Rules and hosts in memory; a rule's number and a host's name, as the program's reader reads them. -/
import Derived.Test.YtfocdefchbnkpaaGreatDoorProI
import Derived.Test.YtfocdefchbnkpaaGreatDoorRefK
namespace Go.Proofs.YtfocdefchbnkpaaGreatDoor
open Go.RowKit

def P.mtCells (l : List P.Mt) : List Value := (l.map P.Mt.cells).flatten
theorem P.mtCells_snoc (l : List P.Mt) (m : P.Mt) : P.mtCells (l ++ [m]) = P.mtCells l ++ m.cells := by simp [P.mtCells]

/-- A rule's seven cells say this rule. -/
def PRuleVal (w : World) (cells : List Value) (r : P.Rl) : Prop :=
  ∃ vM vT vS vD, cells = [.int .i64 r.number, .string (R.str r.path), vM, vT, .string (R.str r.rep), vS, vD] ∧
    w.ownsRow 0 276 3 vM r.ms.length (P.mtCells r.ms) ∧ w.ownsRow 0 285 2 vT r.tg.length (R.tgCells r.tg) ∧
    w.ownsRow 0 280 2 vS r.sets.length (R.fdCells r.sets) ∧ w.ownsRow 0 9 1 vD r.drops.length (R.strCells r.drops)
def PRulesRow (w : World) (B : Nat) (v : Value) (rs : List P.Rl) : Prop :=
  ∃ css : List (List Value), w.ownsRow B 213 7 v rs.length css.flatten ∧ All2 (PRuleVal w) css rs
def PHostVal (w : World) (cells : List Value) (h : P.Hst) : Prop := ∃ vR, cells = [.string (R.str h.name), vR] ∧ PRulesRow w 0 vR h.rules
def PHostsRow (w : World) (B : Nat) (v : Value) (hs : List P.Hst) : Prop :=
  ∃ css : List (List Value), w.ownsRow B 146 2 v hs.length css.flatten ∧ All2 (PHostVal w) css hs

def pleaves : List TypeId := [276, 285, 280, 9]
def prtags : List TypeId := 213 :: pleaves
def phtags : List TypeId := 146 :: prtags
theorem safe_sub {w : World} {row : Option Nat} {a : TypeId} {l : List TypeId} (h : Safe w row (a :: l)) : Safe w row l := fun k c t f hk hb hm => h k c t f hk hb (List.mem_cons_of_mem _ hm)
theorem PRuleVal.keep {w w' : World} {cs : List Value} {r : P.Rl} {row : Option Nat} (h : PRuleVal w cs r) (hg : w.grownBy w' row) (hs : Safe w row pleaves) : PRuleVal w' cs r := by
  obtain ⟨vM, vT, vS, vD, e, h1, h2, h3, h4⟩ := h
  exact ⟨vM, vT, vS, vD, e, own_safe h1 hg hs (by decide), own_safe h2 hg hs (by decide), own_safe h3 hg hs (by decide), own_safe h4 hg hs (by decide)⟩
theorem PRulesRow.keep {w w' : World} {B : Nat} {v : Value} {rs : List P.Rl} {row : Option Nat} (h : PRulesRow w B v rs) (hg : w.grownBy w' row) (hs : Safe w row prtags) : PRulesRow w' B v rs := by
  obtain ⟨css, h1, h2⟩ := h
  exact ⟨css, own_safe h1 hg hs (by decide), h2.map fun a b hab => hab.keep hg (safe_sub hs)⟩
theorem PRulesRow.base {w : World} {B B' : Nat} {v : Value} {rs : List P.Rl} (h : PRulesRow w B v rs) (hb : B' ≤ B) : PRulesRow w B' v rs := by
  obtain ⟨css, h1, h2⟩ := h; exact ⟨css, row_base h1 hb, h2⟩
theorem PHostVal.keep {w w' : World} {cs : List Value} {h : P.Hst} {row : Option Nat} (hv : PHostVal w cs h) (hg : w.grownBy w' row) (hs : Safe w row prtags) : PHostVal w' cs h := by
  obtain ⟨vR, e, h1⟩ := hv; exact ⟨vR, e, h1.keep hg hs⟩
theorem PHostsRow.keep {w w' : World} {B : Nat} {v : Value} {hs : List P.Hst} {row : Option Nat} (h : PHostsRow w B v hs) (hg : w.grownBy w' row) (hsf : Safe w row phtags) : PHostsRow w' B v hs := by
  obtain ⟨css, h1, h2⟩ := h
  exact ⟨css, own_safe h1 hg hsf (by decide), h2.map fun a b hab => hab.keep hg (safe_sub hsf)⟩
/-- The reader is no row of these. -/
theorem PInv.safe {w : World} {rb : Nat} {s : ByteArray} {st : P.St} {l : List TypeId} (h : PInv w rb s st) (hn : 204 ∉ l) : Safe w (some rb) l := safe_box h.rd hn

theorem all2_at {w : World} {css : List (List Value)} {rs : List P.Rl} (h : All2 (PRuleVal w) css rs) (k : Nat) (hk : k < rs.length) : ∃ cs, PRuleVal w cs rs[k] ∧ ∀ j, j < 7 → css.flatten[k * 7 + j]? = cs[j]? := by
  induction h generalizing k with
  | nil => simp at hk
  | @cons c r cs rs hc _ ih =>
    have e : c.length = 7 := by obtain ⟨vM, vT, vS, vD, rfl, _⟩ := hc; rfl
    match k with
    | 0 => exact ⟨c, hc, fun j hj => by rw [List.flatten_cons, List.getElem?_append_left (by omega)]; simp⟩
    | k + 1 =>
      obtain ⟨d, h1, h2⟩ := ih k (by simpa using hk)
      refine ⟨d, h1, fun j hj => ?_⟩
      rw [List.flatten_cons, List.getElem?_append_right (by omega), e, show (k + 1) * 7 + j - 7 = k * 7 + j by omega, h2 j hj]
theorem all2_hat {w : World} {css : List (List Value)} {hs : List P.Hst} (h : All2 (PHostVal w) css hs) (k : Nat) (hk : k < hs.length) : ∃ cs, PHostVal w cs hs[k] ∧ ∀ j, j < 2 → css.flatten[k * 2 + j]? = cs[j]? := by
  induction h generalizing k with
  | nil => simp at hk
  | @cons c r cs rs hc _ ih =>
    have e : c.length = 2 := by obtain ⟨vR, rfl, _⟩ := hc; rfl
    match k with
    | 0 => exact ⟨c, hc, fun j hj => by rw [List.flatten_cons, List.getElem?_append_left (by omega)]; simp⟩
    | k + 1 =>
      obtain ⟨d, h1, h2⟩ := ih k (by simpa using hk)
      refine ⟨d, h1, fun j hj => ?_⟩
      rw [List.flatten_cons, List.getElem?_append_right (by omega), e, show (k + 1) * 2 + j - 2 = k * 2 + j by omega, h2 j hj]

theorem pro_has_rule (b : Nat) (n : Int) (w : World) (B : Nat) (v : Value) (rs : List P.Rl) (hR : PRulesRow w B v rs) (hn : rs.length ≤ 2000000000000) (hc : w.cell? ⟨b, 0, none⟩ = some (.int .i64 n)) :
    Calls Tryz.prog 329 #[v, .func (.func 328) #[] #[.pointer (some ⟨b, 0, none⟩)]] w fun e w' => e = .returned (.bool ((rs.map P.Rl.number).any fun m => decide (m = n))) ∧ w.grownBy w' none := by
  obtain ⟨css, h1, h2⟩ := hR
  have h := pro_ContainsFunc_rule b n w v (rs.map P.Rl.number) css (by rw [List.length_map]; exact row_base h1 (Nat.zero_le _)) (by rw [List.length_map]; exact hn) hc (fun k hk j hj => by
    rw [List.length_map] at hk
    obtain ⟨cs, ⟨vM, vT, vS, vD, e, _⟩, ha⟩ := all2_at h2 k hk
    subst e
    have := ha j hj
    match j, hj with
    | 0, _ => exact ⟨_, this, fun _ => by rw [List.getElem_map]⟩
    | 1, _ => exact ⟨_, this, fun h => absurd h (by decide)⟩
    | 2, _ => exact ⟨_, this, fun h => absurd h (by decide)⟩
    | 3, _ => exact ⟨_, this, fun h => absurd h (by decide)⟩
    | 4, _ => exact ⟨_, this, fun h => absurd h (by decide)⟩
    | 5, _ => exact ⟨_, this, fun h => absurd h (by decide)⟩
    | 6, _ => exact ⟨_, this, fun h => absurd h (by decide)⟩)
  have e : (fun x : Int => x == n) = fun m => decide (m = n) := by funext x; rw [Bool.eq_iff_iff]; simp
  rw [e] at h; exact h
theorem pro_has_host (b : Nat) (nm : List UInt8) (w : World) (B : Nat) (v : Value) (hs : List P.Hst) (hR : PHostsRow w B v hs) (hn : hs.length ≤ 2000000000000) (hc : w.cell? ⟨b, 0, none⟩ = some (.string (R.str nm))) :
    Calls Tryz.prog 269 #[v, .func (.func 267) #[] #[.pointer (some ⟨b, 0, none⟩)]] w fun e w' => e = .returned (.bool ((hs.map P.Hst.name).any fun m => decide (m = nm))) ∧ w.grownBy w' none := by
  obtain ⟨css, h1, h2⟩ := hR
  have h := pro_ContainsFunc_host b (R.str nm) w v (hs.map fun h => R.str h.name) css (by rw [List.length_map]; exact row_base h1 (Nat.zero_le _)) (by rw [List.length_map]; exact hn) hc (fun k hk j hj => by
    rw [List.length_map] at hk
    obtain ⟨cs, ⟨vR, e, _⟩, ha⟩ := all2_hat h2 k hk
    subst e
    have := ha j hj
    match j, hj with
    | 0, _ => exact ⟨_, this, fun _ => by rw [List.getElem_map]⟩
    | 1, _ => exact ⟨_, this, fun h => absurd h (by decide)⟩)
  rw [List.any_map] at h
  simp only [Function.comp_def, str_beq] at h
  rw [List.any_map]; exact h

set_option maxRecDepth 100000 in
set_option maxHeartbeats 2000000 in
theorem pro_ruleNumber {w : World} {rb : Nat} {s : ByteArray} {st : P.St} (h : PInv w rb s st) (B : Nat) (v : Value) (rs : List P.Rl) (hR : PRulesRow w B v rs) (hn : rs.length ≤ 2000000000000) :
    Calls Tryz.prog 270 #[.pointer (some ⟨rb, 0, none⟩), v] w fun e w' => e = .returned (.int .i64 (P.ruleNoS s.data.toList st (rs.map P.Rl.number)).1) ∧ PInv w' rb s (P.ruleNoS s.data.toList st (rs.map P.Rl.number)).2 ∧ w.grownBy w' (some rb) ∧ 0 ≤ (P.ruleNoS s.data.toList st (rs.map P.Rl.number)).1 ∧ (P.ruleNoS s.data.toList st (rs.map P.Rl.number)).1 ≤ 99999 := by
  have HP : Hid (P.ruleNoS s.data.toList st (rs.map P.Rl.number) = ((P.numS s.data.toList st).1, P.noteIf (P.noteIf (P.numS s.data.toList st).2 (decide (65535 < (P.numS s.data.toList st).1)) 4 st.tok.at_) ((rs.map P.Rl.number).any fun n => decide (n = (P.numS s.data.toList st).1)) 5 st.tok.at_)) := rfl
  have H0 : Hid _ := h
  have brb : rb < w.heap.size := block_lt h.rd
  have HR : Hid (PRulesRow w B v rs) := hR
  have HN : Hid _ := hn
  clear h hR hn
  go_enter Tryz.func270, Tryz.ntmps270
  have C0 : Hid (w.grownBy w (some rb)) := grown_refl _ _
  go_wp2_with fail
  refine (pro_takeNumber H0.out).mono ?_
  rintro e w1 ⟨rfl, I1, hg1, hn0, hn1⟩
  have J1 : Hid _ := I1
  have b1 : rb < w1.heap.size := block_lt J1.out.rd
  have s1 : w.heap.size + 0 ≤ w1.heap.size := by have h := hg1.size; simpa using h
  have G1 : Hid (w.grownBy w1 (some rb)) := hg1
  have C1 : Hid (w.grownBy w1 (some rb)) := grown_trans C0.out G1.out
  have z1 : w.heap.size ≤ w1.heap.size := C1.out.size
  clear hg1 I1
  generalize P.numS s.data.toList st = q at *
  obtain ⟨num, st1⟩ := q
  simp only at J1 HP hn0 hn1 ⊢
  go_wp2_with fail
  have J2 : Hid _ := J1.out.keep (World.grownBy_alloc w1 (.cells #[.int .i64 num] 3) none)
  have C2 : Hid (w.grownBy (World.alloc w1 (.cells #[.int .i64 num] 3)) (some rb)) := grown_trans C1.out (World.grownBy_alloc w1 (.cells #[.int .i64 num] 3) _)
  have NB_2 : Hid ((World.alloc w1 (.cells #[.int .i64 num] 3)).heap[w1.heap.size]? = some (.cells #[.int .i64 num] 3)) := heap_alloc_new _ _
  have s2 : w1.heap.size + 1 ≤ (World.alloc w1 (.cells #[.int .i64 num] 3)).heap.size := by simp
  have t2 : (World.alloc w1 (.cells #[.int .i64 num] 3)).heap.size ≤ w1.heap.size + 1 := by simp
  generalize (World.alloc w1 (.cells #[.int .i64 num] 3)) = w2 at *
  have b2 : rb < w2.heap.size := by omega
  have z2 : w.heap.size ≤ w2.heap.size := C2.out.size
  refine (pro_noteIf J2.out _ _ _).mono ?_
  rintro e w3 ⟨rfl, I3, hg3⟩
  have J3 : Hid _ := I3
  have b3 : rb < w3.heap.size := block_lt J3.out.rd
  have s3 : w2.heap.size + 0 ≤ w3.heap.size := by have h := hg3.size; simpa using h
  have G3 : Hid (w2.grownBy w3 (some rb)) := hg3
  have C3 : Hid (w.grownBy w3 (some rb)) := grown_trans C2.out G3.out
  have z3 : w.heap.size ≤ w3.heap.size := C3.out.size
  have NB_3 : Hid (w3.heap[w1.heap.size]? = some (.cells #[.int .i64 num] 3)) := keep_block NB_2.out G3.out (by simp; omega)
  clear hg3 I3
  go_wp2_with fail
  refine (pro_has_rule w1.heap.size num _ B v rs (HR.out.keep C3.out (H0.out.safe (by decide))) HN.out (cell_of_block NB_3.out)).mono ?_
  rintro e w4 ⟨rfl, gg4⟩
  have hg4 := grown_wide gg4 (some rb)
  have J4 : Hid _ := (J3.out).keep gg4
  have b4 : rb < w4.heap.size := block_lt J4.out.rd
  have s4 : w3.heap.size + 0 ≤ w4.heap.size := by have h := hg4.size; simpa using h
  have G4 : Hid (w3.grownBy w4 (some rb)) := hg4
  have C4 : Hid (w.grownBy w4 (some rb)) := grown_trans C3.out G4.out
  have z4 : w.heap.size ≤ w4.heap.size := C4.out.size
  have NB_4 : Hid (w4.heap[w1.heap.size]? = some (.cells #[.int .i64 num] 3)) := keep_block NB_3.out G4.out (by simp; omega)
  clear hg4 gg4
  go_wp2_with fail
  refine (pro_noteIf J4.out _ _ _).mono ?_
  rintro e w5 ⟨rfl, I5, hg5⟩
  have J5 : Hid _ := I5
  have b5 : rb < w5.heap.size := block_lt J5.out.rd
  have s5 : w4.heap.size + 0 ≤ w5.heap.size := by have h := hg5.size; simpa using h
  have G5 : Hid (w4.grownBy w5 (some rb)) := hg5
  have C5 : Hid (w.grownBy w5 (some rb)) := grown_trans C4.out G5.out
  have z5 : w.heap.size ≤ w5.heap.size := C5.out.size
  have NB_5 : Hid (w5.heap[w1.heap.size]? = some (.cells #[.int .i64 num] 3)) := keep_block NB_4.out G5.out (by simp; omega)
  clear hg5 I5
  have qNBl : w1.heap.size < w5.heap.size := block_lt NB_5.out
  have qNB0 : w5.cell? ⟨w1.heap.size, 0, none⟩ = some (.int .i64 num) := cell_of_block NB_5.out
  go_wp2
  go_ret
  exact ⟨by rw [HP.out]; rfl, by rw [HP.out, List.any_map]; exact J5.out, C5.out, by rw [HP.out]; exact hn0, by rw [HP.out]; exact hn1⟩

set_option maxRecDepth 100000 in
set_option maxHeartbeats 2000000 in
theorem pro_hostName {w : World} {rb : Nat} {s : ByteArray} {st : P.St} (h : PInv w rb s st) (B : Nat) (v : Value) (hs : List P.Hst) (hR : PHostsRow w B v hs) (hn : hs.length ≤ 2000000000000) (hG : Glob w) (hrb : rb ≠ 0) :
    Calls Tryz.prog 207 #[.pointer (some ⟨rb, 0, none⟩), v] w fun e w' => e = .returned (.string (R.str (P.hostNameS s.data.toList st (hs.map P.Hst.name)).1)) ∧ PInv w' rb s (P.hostNameS s.data.toList st (hs.map P.Hst.name)).2 ∧ w.grownBy w' (some rb) := by
  have HP : Hid (P.hostNameS s.data.toList st (hs.map P.Hst.name) = (R.lower (P.strS s.data.toList st).1,
   P.noteIf (P.noteIf (P.strS s.data.toList st).2 (!R.named (P.strS s.data.toList st).1 true) 4 st.tok.at_) ((hs.map P.Hst.name).any fun n => decide (n = R.lower (P.strS s.data.toList st).1)) 5 st.tok.at_)) := rfl
  have H0 : Hid _ := h
  have brb : rb < w.heap.size := block_lt h.rd
  have HR : Hid (PHostsRow w B v hs) := hR
  have HN : Hid _ := hn
  have HG : Hid (Glob w) := hG
  have HL : Hid ((R.str (P.strS s.data.toList st).1).size ≤ 24) := h.slen
  clear h hR hn hG
  go_enter Tryz.func207, Tryz.ntmps207
  have C0 : Hid (w.grownBy w (some rb)) := grown_refl _ _
  go_wp2_with fail
  refine (pro_takeString H0.out).mono ?_
  rintro e w1 ⟨rfl, I1, hg1⟩
  have J1 : Hid _ := I1
  have b1 : rb < w1.heap.size := block_lt J1.out.rd
  have s1 : w.heap.size + 0 ≤ w1.heap.size := by have h := hg1.size; simpa using h
  have G1 : Hid (w.grownBy w1 (some rb)) := hg1
  have C1 : Hid (w.grownBy w1 (some rb)) := grown_trans C0.out G1.out
  have z1 : w.heap.size ≤ w1.heap.size := C1.out.size
  clear hg1 I1
  generalize P.strS s.data.toList st = q at *
  obtain ⟨str, st1⟩ := q
  simp only at J1 HP HL ⊢
  have HL2 : Hid ((R.str str).size ≤ 1000000000000) := by have := HL.out; show _ ≤ _; omega
  have HL3 : Hid ((R.str str).size ≤ 3000) := by have := HL.out; show _ ≤ _; omega
  go_wp2_with fail
  refine (pro_Small _ _ HL2.out).mono ?_
  rintro e w2 ⟨rfl, gg2⟩
  have hg2 := grown_wide gg2 (some rb)
  have J2 : Hid _ := (J1.out).keep gg2
  have b2 : rb < w2.heap.size := block_lt J2.out.rd
  have s2 : w1.heap.size + 0 ≤ w2.heap.size := by have h := hg2.size; simpa using h
  have G2 : Hid (w1.grownBy w2 (some rb)) := hg2
  have C2 : Hid (w.grownBy w2 (some rb)) := grown_trans C1.out G2.out
  have z2 : w.heap.size ≤ w2.heap.size := C2.out.size
  clear hg2 gg2
  rw [R.str_toList]
  go_wp2_with fail
  have J3 : Hid _ := J2.out.keep (World.grownBy_alloc w2 (.cells #[.string (R.str (R.lower str))] 9) none)
  have C3 : Hid (w.grownBy (World.alloc w2 (.cells #[.string (R.str (R.lower str))] 9)) (some rb)) := grown_trans C2.out (World.grownBy_alloc w2 (.cells #[.string (R.str (R.lower str))] 9) _)
  have NB_3 : Hid ((World.alloc w2 (.cells #[.string (R.str (R.lower str))] 9)).heap[w2.heap.size]? = some (.cells #[.string (R.str (R.lower str))] 9)) := heap_alloc_new _ _
  have s3 : w2.heap.size + 1 ≤ (World.alloc w2 (.cells #[.string (R.str (R.lower str))] 9)).heap.size := by simp
  have t3 : (World.alloc w2 (.cells #[.string (R.str (R.lower str))] 9)).heap.size ≤ w2.heap.size + 1 := by simp
  generalize (World.alloc w2 (.cells #[.string (R.str (R.lower str))] 9)) = w3 at *
  have b3 : rb < w3.heap.size := by omega
  have z3 : w.heap.size ≤ w3.heap.size := C3.out.size
  obtain ⟨gm, hgm⟩ := HG.out.keep C3.out (by simpa using hrb)
  have HGm : Hid _ := hgm
  clear hgm
  refine (pro_IsHost _ _ gm HGm.out HL3.out).mono ?_
  rintro e w4 ⟨rfl, gg4⟩
  have hg4 := grown_wide gg4 (some rb)
  have J4 : Hid _ := (J3.out).keep gg4
  have b4 : rb < w4.heap.size := block_lt J4.out.rd
  have s4 : w3.heap.size + 0 ≤ w4.heap.size := by have h := hg4.size; simpa using h
  have G4 : Hid (w3.grownBy w4 (some rb)) := hg4
  have C4 : Hid (w.grownBy w4 (some rb)) := grown_trans C3.out G4.out
  have z4 : w.heap.size ≤ w4.heap.size := C4.out.size
  have NB_4 : Hid (w4.heap[w2.heap.size]? = some (.cells #[.string (R.str (R.lower str))] 9)) := keep_block NB_3.out G4.out (by simp; omega)
  clear hg4 gg4
  rw [R.str_toList]
  go_wp2_with fail
  refine (pro_noteIf J4.out _ _ _).mono ?_
  rintro e w5 ⟨rfl, I5, hg5⟩
  have J5 : Hid _ := I5
  have b5 : rb < w5.heap.size := block_lt J5.out.rd
  have s5 : w4.heap.size + 0 ≤ w5.heap.size := by have h := hg5.size; simpa using h
  have G5 : Hid (w4.grownBy w5 (some rb)) := hg5
  have C5 : Hid (w.grownBy w5 (some rb)) := grown_trans C4.out G5.out
  have z5 : w.heap.size ≤ w5.heap.size := C5.out.size
  have NB_5 : Hid (w5.heap[w2.heap.size]? = some (.cells #[.string (R.str (R.lower str))] 9)) := keep_block NB_4.out G5.out (by simp; omega)
  clear hg5 I5
  go_wp2_with fail
  refine (pro_has_host w2.heap.size (R.lower str) _ B v hs (HR.out.keep C5.out (H0.out.safe (by decide))) HN.out (cell_of_block NB_5.out)).mono ?_
  rintro e w6 ⟨rfl, gg6⟩
  have hg6 := grown_wide gg6 (some rb)
  have J6 : Hid _ := (J5.out).keep gg6
  have b6 : rb < w6.heap.size := block_lt J6.out.rd
  have s6 : w5.heap.size + 0 ≤ w6.heap.size := by have h := hg6.size; simpa using h
  have G6 : Hid (w5.grownBy w6 (some rb)) := hg6
  have C6 : Hid (w.grownBy w6 (some rb)) := grown_trans C5.out G6.out
  have z6 : w.heap.size ≤ w6.heap.size := C6.out.size
  have NB_6 : Hid (w6.heap[w2.heap.size]? = some (.cells #[.string (R.str (R.lower str))] 9)) := keep_block NB_5.out G6.out (by simp; omega)
  clear hg6 gg6
  go_wp2_with fail
  refine (pro_noteIf J6.out _ _ _).mono ?_
  rintro e w7 ⟨rfl, I7, hg7⟩
  have J7 : Hid _ := I7
  have b7 : rb < w7.heap.size := block_lt J7.out.rd
  have s7 : w6.heap.size + 0 ≤ w7.heap.size := by have h := hg7.size; simpa using h
  have G7 : Hid (w6.grownBy w7 (some rb)) := hg7
  have C7 : Hid (w.grownBy w7 (some rb)) := grown_trans C6.out G7.out
  have z7 : w.heap.size ≤ w7.heap.size := C7.out.size
  have NB_7 : Hid (w7.heap[w2.heap.size]? = some (.cells #[.string (R.str (R.lower str))] 9)) := keep_block NB_6.out G7.out (by simp; omega)
  clear hg7 I7
  have qNBl : w2.heap.size < w7.heap.size := block_lt NB_7.out
  have qNB0 : w7.cell? ⟨w2.heap.size, 0, none⟩ = some (.string (R.str (R.lower str))) := cell_of_block NB_7.out
  go_wp2
  go_ret
  exact ⟨by rw [HP.out]; rfl, by rw [HP.out, List.any_map]; exact J7.out, C7.out⟩

end Go.Proofs.YtfocdefchbnkpaaGreatDoor
