/- A rule in its plain form, as the document's own function writes it. -/
import Derived.Test.YtfocdefchbnkpaaGreatDoorRefK
namespace Go.Proofs.YtfocdefchbnkpaaGreatDoor
open Go.RowKit
namespace R

def q (l : List UInt8) : List UInt8 := 34 :: l ++ [34]
def decI (n : Int) : List UInt8 := dec n.toNat
def lnHead (r : Rl) : List UInt8 := [32, 32, 114, 117, 108, 101, 32] ++ decI r.number ++ [32, 123, 10, 32, 32, 32, 32, 112, 97, 116, 104, 32] ++ q r.path ++ [59, 10]
def lnMt (m : Mt) : List UInt8 := [32, 32, 32, 32, 104, 101, 97, 100, 101, 114, 32] ++ q m.name ++ (if m.ask then [32, 61, 32] ++ q m.val else []) ++ [59, 10]
def lnTg (t : List UInt8 × Int) : List UInt8 := q t.1 ++ [32] ++ decI t.2
def lnTgs : List (List UInt8 × Int) → List UInt8
  | [] => []
  | t :: l => lnTg t ++ (l.map fun u => [44, 32] ++ lnTg u).flatten
theorem lnTgs_snoc (l : List (List UInt8 × Int)) (k : Nat) (h : k < l.length) : lnTgs (l.take (k + 1)) = lnTgs (l.take k) ++ ((if k = 0 then [] else [44, 32]) ++ lnTg l[k]) := by
  cases l with
  | nil => simp at h
  | cons a l =>
    match k with
    | 0 => simp [lnTgs]
    | k + 1 =>
      have hk : k < l.length := by simpa using h
      rw [List.take_succ_cons, List.take_succ_cons, lnTgs, lnTgs, List.take_succ_eq_append_getElem hk, List.map_append, List.flatten_append]
      simp
def lnTo (r : Rl) : List UInt8 := if r.change then [32, 32, 32, 32, 114, 101, 112, 108, 97, 99, 101, 32] ++ q r.to ++ [59, 10] else []
def lnSet (t : List UInt8 × List UInt8) : List UInt8 := [32, 32, 32, 32, 115, 101, 116, 32] ++ q t.1 ++ [32, 61, 32] ++ q t.2 ++ [59, 10]
def lnDrop (l : List UInt8) : List UInt8 := [32, 32, 32, 32, 100, 114, 111, 112, 32] ++ q l ++ [59, 10]
def lines (r : Rl) : List UInt8 :=
  lnHead r ++ (r.ms.map lnMt).flatten ++ [32, 32, 32, 32, 116, 111, 32] ++ lnTgs r.tg ++ [59, 10] ++ lnTo r ++ (r.sets.map lnSet).flatten ++ (r.drops.map lnDrop).flatten ++ [32, 32, 125, 10]

/-- A rule whose strings and numbers are small. -/
structure Small (r : Rl) : Prop where
  num : 0 ≤ r.number ∧ r.number ≤ 99999
  path : r.path.length ≤ 3000
  ms : r.ms.length ≤ 4000 ∧ ∀ m ∈ r.ms, m.name.length ≤ 3000 ∧ m.val.length ≤ 3000
  tg : r.tg.length ≤ 4000 ∧ ∀ t ∈ r.tg, t.1.length ≤ 3000 ∧ 0 ≤ t.2 ∧ t.2 ≤ 99999
  to : r.to.length ≤ 3000
  sets : r.sets.length ≤ 4000 ∧ ∀ t ∈ r.sets, t.1.length ≤ 3000 ∧ t.2.length ≤ 3000
  drops : r.drops.length ≤ 4000 ∧ ∀ t ∈ r.drops, t.length ≤ 3000

theorem q_len (l : List UInt8) : (q l).length = l.length + 2 := by simp [q]
theorem decI_len (n : Int) (h : 0 ≤ n ∧ n ≤ 99999) : (decI n).length ≤ 5 := dec_len n.toNat 4 (by omega)
theorem str_append (a b : List UInt8) : str a ++ str b = str (a ++ b) := by
  apply str_ext; rw [app_data, str_toList, str_toList, str_toList]

end R

theorem grown_drewN' (w : World) (n : Nat) : w.grownBy (w.drewN n) none := by
  induction n with
  | zero => exact grown_refl _ _
  | succ n ih => exact grown_trans ih (grown_drew _)
theorem flat_get {α : Type} (f : α → List Value) (n : Nat) (hf : ∀ a, (f a).length = n) (l : List α) (k j : Nat) (hk : k < l.length) (hj : j < n) : (l.map f).flatten[k * n + j]? = (f l[k])[j]? := by
  induction l generalizing k with
  | nil => simp at hk
  | cons a l ih =>
    rw [List.map_cons, List.flatten_cons]
    match k with
    | 0 => rw [List.getElem?_append_left (by rw [hf]; omega)]; simp
    | k + 1 =>
      rw [List.getElem?_append_right (by rw [hf, Nat.succ_mul]; omega), hf, show (k + 1) * n + j - n = k * n + j by rw [Nat.succ_mul]; omega, ih k (by simpa using hk)]; rfl
theorem row_get {w w' : World} {α : Type} (f : α → List Value) (n : Nat) (hf : ∀ a, (f a).length = n) {B : Nat} {e : TypeId} {g c : Nat} {l : List α} (h : w.ownsRow B e n (.slice (some ⟨g, 0, none⟩) l.length c) l.length (l.map f).flatten) (hg : w.grownBy w' none) (k j : Nat) (hk : k < l.length) (hj : j < n) {u : Value} (hu : (f l[k])[j]? = some u) : w'.cell? ⟨g, k * n + j, none⟩ = some u := by
  refine hg.cell (a := ⟨g, k * n + j, none⟩) ?_ (by simp)
  have hlt : k * n + j < l.length * n := by
    have h1 : (k + 1) * n ≤ l.length * n := Nat.mul_le_mul_right n (by omega)
    rw [Nat.succ_mul] at h1; omega
  rw [World.ownsRow.cellAt h (k * n + j) hlt, flat_get f n hf l k j hk hj]; exact hu
theorem strFlat (l : List (List UInt8)) : (l.map fun s => [Value.string (R.str s)]).flatten = R.strCells l := by
  unfold R.strCells
  induction l with
  | nil => rfl
  | cons a l ih => rw [List.map_cons, List.flatten_cons, ih]; rfl
theorem strRow1 {w : World} {B : Nat} {e : TypeId} {v : Value} {l : List (List UInt8)} (h : w.ownsRow B e 1 v l.length (R.strCells l)) : w.ownsRow B e 1 v l.length (l.map fun s => [Value.string (R.str s)]).flatten := by
  rw [strFlat]; exact h
theorem flat_snoc {α : Type} (f : α → List UInt8) (l : List α) (k : Nat) (hk : k < l.length) : ((l.take (k + 1)).map f).flatten = ((l.take k).map f).flatten ++ f l[k] := by
  rw [List.take_succ_eq_append_getElem hk, List.map_append, List.flatten_append]; simp

theorem ref_quoteS (l : List UInt8) (w : World) (hs : l.length ≤ 100000) :
    Calls Tryz.prog 54 #[.string (R.str l)] w fun e w' => e = .returned (.string (R.str (R.q l))) ∧ w' = w := by
  have := ref_quote (R.str l) w (by rw [R.str_size]; exact hs)
  rw [R.str_toList] at this
  exact this
theorem ref_decimalS (n : Int) (w : World) (h : 0 ≤ n ∧ n ≤ 99999) :
    Calls Tryz.prog 91 #[.int .i64 n] w fun e w' => e = .returned (.string (R.str (R.decI n))) ∧ w' = w := by
  have := ref_decimal n.toNat w (by omega)
  rw [Int.toNat_of_nonneg h.1] at this
  exact this

set_option maxRecDepth 100000 in
set_option maxHeartbeats 4000000 in
theorem ref_Lines {w : World} (cs : List Value) (r : R.Rl) (hr : RuleVal w cs r) (hs : R.Small r) :
    Calls Tryz.prog 55 #[.agg cs.toArray] w fun e w' => e = .returned (.string (R.str (R.lines r))) ∧ w.grownBy w' none := by
  obtain ⟨vM, vT, vS, vD, rfl, hM, hT, hS, hD⟩ := hr
  obtain ⟨m1, m2, rfl⟩ := len_row hM
  obtain ⟨t1, t2, rfl⟩ := len_row hT
  obtain ⟨x1, x2, rfl⟩ := len_row hS
  obtain ⟨d1, d2, rfl⟩ := len_row hD
  have HM : Hid _ := hM
  have HT : Hid _ := hT
  have HS : Hid _ := hS
  have HD : Hid _ := hD
  have HSm : Hid _ := hs
  have hqp : Hid (r.path.length ≤ 100000) := by have := hs.path; show _ ≤ _; omega
  have hnum := hs.num
  have zq1 : (R.str (R.q r.path)).size ≤ 3002 := by rw [R.str_size, R.q_len]; have := hs.path; omega
  have zd1 : (R.str (R.decI r.number)).size ≤ 5 := by rw [R.str_size]; exact R.decI_len _ hs.num
  have HNum : Hid _ := hnum
  clear hM hT hS hD hs hnum
  go_enter Tryz.func55, Tryz.ntmps55
  go_wp2_with fail
  go_quiet ((first | (go_at_call 91; exact Calls.quiet_of_same (ref_decimalS _ _ HNum.out)) | (go_at_call 54; exact Calls.quiet_of_same (ref_quoteS _ _ hqp.out))))
  have HGa : Hid (w.grownBy ((w.alloc (.cells #[.int .i64 r.number, .string (R.str r.path), .slice m1 r.ms.length m2, .slice t1 r.tg.length t2, .bool r.change, .string (R.str r.to), .slice x1 r.sets.length x2, .slice d1 r.drops.length d2] 126)).drewN nq) none) := grown_trans (World.grownBy_alloc _ _ _) (grown_drewN' _ _)
  have HBX : Hid (((w.alloc (.cells #[.int .i64 r.number, .string (R.str r.path), .slice m1 r.ms.length m2, .slice t1 r.tg.length t2, .bool r.change, .string (R.str r.to), .slice x1 r.sets.length x2, .slice d1 r.drops.length d2] 126)).drewN nq).heap[w.heap.size]? = some (.cells #[.int .i64 r.number, .string (R.str r.path), .slice m1 r.ms.length m2, .slice t1 r.tg.length t2, .bool r.change, .string (R.str r.to), .slice x1 r.sets.length x2, .slice d1 r.drops.length d2] 126)) := keep_block (heap_alloc_new _ _) (grown_drewN' _ _) (by simp)
  have E1 : Hid ((⟨#[32, 32, 114, 117, 108, 101, 32]⟩ : ByteArray) ++ R.str (R.decI r.number) ++ ⟨#[32, 123, 10, 32, 32, 32, 32, 112, 97, 116, 104, 32]⟩ ++ R.str (R.q r.path) ++ ⟨#[59, 10]⟩ = R.str (R.lnHead r)) := by
    show _ = _
    apply str_ext; rw [app_data, app_data, app_data, app_data, R.str_toList, R.str_toList, R.str_toList]; rfl
  go_wp2_with fail
  rw [E1.out]
  generalize (w.alloc (.cells #[.int .i64 r.number, .string (R.str r.path), .slice m1 r.ms.length m2, .slice t1 r.tg.length t2, .bool r.change, .string (R.str r.to), .slice x1 r.sets.length x2, .slice d1 r.drops.length d2] 126)).drewN nq = wq at *
  have hz : (R.str (R.lnHead r)).size ≤ 10000 := by
    rw [R.str_size]; rw [R.str_size] at zq1 zd1; unfold R.lnHead; simp only [List.length_append, List.length_cons, List.length_nil]; omega
  generalize hpre : R.lnHead r = pre at *
  have HPre : Hid (R.lnHead r = pre) := hpre
  clear hpre zq1 zd1
  go_loopw [3, 4] (fun sv iv wr => ∃ k : Nat, k ≤ r.ms.length ∧ iv = .int .i64 k ∧ sv = .string (R.str (pre ++ ((r.ms.take k).map R.lnMt).flatten)) ∧ (R.str (pre ++ ((r.ms.take k).map R.lnMt).flatten)).size ≤ 10000 + 6100 * k ∧ Hid (wq.grownBy wr none)) (fun _ iv _ => r.ms.length - (intOf iv).toNat)
  case atStart => exact ⟨0, Nat.zero_le _, rfl, by simp, by simpa using hz, grown_refl _ _⟩
  case round =>
    obtain ⟨k, hk, rfl, rfl, hsz, HR⟩ := hrel
    have BXr := keep_block HBX.out HR.out (by simp)
    have bx0 : wr.cell? ⟨w.heap.size, 0, none⟩ = some (.int .i64 r.number) := cell_of_block BXr
    have bx1 : wr.cell? ⟨w.heap.size, 1, none⟩ = some (.string (R.str r.path)) := cell_of_block BXr
    have bx2 : wr.cell? ⟨w.heap.size, 2, none⟩ = some (.slice m1 r.ms.length m2) := cell_of_block BXr
    have bx3 : wr.cell? ⟨w.heap.size, 3, none⟩ = some (.slice t1 r.tg.length t2) := cell_of_block BXr
    have bx4 : wr.cell? ⟨w.heap.size, 4, none⟩ = some (.bool r.change) := cell_of_block BXr
    have bx5 : wr.cell? ⟨w.heap.size, 5, none⟩ = some (.string (R.str r.to)) := cell_of_block BXr
    have bx6 : wr.cell? ⟨w.heap.size, 6, none⟩ = some (.slice x1 r.sets.length x2) := cell_of_block BXr
    have bx7 : wr.cell? ⟨w.heap.size, 7, none⟩ = some (.slice d1 r.drops.length d2) := cell_of_block BXr
    clear BXr
    have hbl : w.heap.size < wr.heap.size := by have h1 := block_lt HBX.out; have h2 := HR.out.size; omega
    by_cases hlt : k < r.ms.length
    · obtain ⟨gm, gmc, hgm, _, _⟩ := World.ownsRow.form HM.out (by omega)
      simp only [Value.slice.injEq] at hgm
      obtain ⟨rfl, _, rfl⟩ := hgm
      have hW : w.grownBy wr none := grown_trans HGa.out HR.out
      have e0 : wr.cell? ⟨gm, k * 3, none⟩ = some (.string (R.str r.ms[k].name)) := row_get (R.Mt.cells) 3 (fun _ => rfl) HM.out hW k 0 hlt (by omega) rfl
      have e1 : wr.cell? ⟨gm, k * 3 + 1, none⟩ = some (.string (R.str r.ms[k].val)) := row_get (R.Mt.cells) 3 (fun _ => rfl) HM.out hW k 1 hlt (by omega) rfl
      have e2 : wr.cell? ⟨gm, k * 3 + 2, none⟩ = some (.bool r.ms[k].ask) := row_get (R.Mt.cells) 3 (fun _ => rfl) HM.out hW k 2 hlt (by omega) rfl
      clear hW
      have HF : Hid _ := flat_snoc R.lnMt r.ms k hlt
      have hlm := HSm.out.ms.1
      have hsm := HSm.out.ms.2 r.ms[k] (List.getElem_mem hlt)
      have HLn : Hid (R.lnMt r.ms[k] = [32, 32, 32, 32, 104, 101, 97, 100, 101, 114, 32] ++ R.q r.ms[k].name ++ (if r.ms[k].ask then [32, 61, 32] ++ R.q r.ms[k].val else []) ++ [59, 10]) := rfl
      generalize r.ms[k] = m at *
      have zn : (R.str (R.q m.name)).size ≤ 3002 := by rw [R.str_size, R.q_len]; omega
      have zv : (R.str (R.q m.val)).size ≤ 3002 := by rw [R.str_size, R.q_len]; omega
      have hn1 : Hid (m.name.length ≤ 100000) := by show _ ≤ _; omega
      have hn2 : Hid (m.val.length ≤ 100000) := by show _ ≤ _; omega
      have hll : (R.lnMt m).length ≤ 6100 := by
        rw [HLn.out]; simp only [List.length_append, R.q_len, List.length_cons, List.length_nil]
        split
        · simp only [List.length_append, R.q_len, List.length_cons, List.length_nil]; omega
        · simp only [List.length_nil]; omega
      clear hsm
      have HSz : Hid ((R.str (pre ++ ((r.ms.take (k + 1)).map R.lnMt).flatten)).size ≤ 10000 + 6100 * (k + 1)) := by
        show _ ≤ _
        rw [R.str_size] at hsz
        rw [R.str_size, HF.out, ← List.append_assoc, List.length_append]; omega
      have Hend : Hid (∀ x : ByteArray, x.data.toList = (pre ++ ((r.ms.take k).map R.lnMt).flatten) ++ (R.lnMt m) → Value.string x = .string (R.str (pre ++ ((r.ms.take (k + 1)).map R.lnMt).flatten))) := by
        intro x hx
        have : x = R.str (pre ++ ((r.ms.take (k + 1)).map R.lnMt).flatten) := by
          apply str_ext; rw [R.str_toList, HF.out, hx, List.append_assoc]
        rw [← this]
      clear hll
      generalize pre ++ ((r.ms.take k).map R.lnMt).flatten = acc at *
      cases hask : m.ask
      · rw [hask] at HLn
        go_wp2_with fail
        refine (ref_quoteS m.name _ hn1.out).mono ?_
        rintro e wX ⟨rfl, hwX⟩
        rw [hwX]
        clear hwX wX
        go_wp2
        refine ⟨⟨k + 1, by omega, by go_num, Hend.out _ ?_, HSz.out, HR.out⟩, by simp [intOf]; omega⟩
        rw [app_data, app_data, app_data, R.str_toList, R.str_toList, HLn.out]; simp
      · rw [hask] at HLn
        go_wp2_with fail
        refine (ref_quoteS m.name _ hn1.out).mono ?_
        rintro e wX ⟨rfl, hwX⟩
        rw [hwX]
        clear hwX wX
        go_wp2_with fail
        refine (ref_quoteS m.val _ hn2.out).mono ?_
        rintro e wX ⟨rfl, hwX⟩
        rw [hwX]
        clear hwX wX
        go_wp2
        refine ⟨⟨k + 1, by omega, by go_num, Hend.out _ ?_, HSz.out, HR.out⟩, by simp [intOf]; omega⟩
        rw [app_data, app_data, app_data, app_data, app_data, R.str_toList, R.str_toList, R.str_toList, HLn.out]; simp
    · have hke : k = r.ms.length := by omega
      subst hke
      rw [List.take_of_length_le (Nat.le_refl _)] at hsz
      have HP2 : Hid (pre ++ (r.ms.map R.lnMt).flatten ++ [32, 32, 32, 32, 116, 111, 32] = pre ++ (r.ms.map R.lnMt).flatten ++ [32, 32, 32, 32, 116, 111, 32]) := rfl
      rw [List.take_of_length_le (Nat.le_refl _)]
      have hlm := HSm.out.ms.1
      have E2 : Hid (R.str (pre ++ (r.ms.map R.lnMt).flatten) ++ ⟨#[32, 32, 32, 32, 116, 111, 32]⟩ = R.str (pre ++ (r.ms.map R.lnMt).flatten ++ [32, 32, 32, 32, 116, 111, 32])) := by
        show _ = _; apply str_ext; rw [app_data, R.str_toList, R.str_toList]
      have hz2 : (R.str (pre ++ (r.ms.map R.lnMt).flatten ++ [32, 32, 32, 32, 116, 111, 32])).size ≤ 25000000 := by
        rw [R.str_size] at hsz ⊢; rw [List.length_append]; simp only [List.length_cons, List.length_nil]; omega
      have HQ2 : Hid (R.lnHead r ++ (r.ms.map R.lnMt).flatten ++ [32, 32, 32, 32, 116, 111, 32] = pre ++ (r.ms.map R.lnMt).flatten ++ [32, 32, 32, 32, 116, 111, 32]) := by rw [HPre.out]; rfl
      clear HP2
      go_wp2_with fail
      rw [E2.out]
      generalize pre ++ (r.ms.map R.lnMt).flatten ++ [32, 32, 32, 32, 116, 111, 32] = pre2 at *
      clear E2 hz hsz HPre
      go_loopw [3, 5] (fun sv iv wr => ∃ k : Nat, k ≤ r.tg.length ∧ iv = .int .i64 k ∧ sv = .string (R.str (pre2 ++ R.lnTgs (r.tg.take k))) ∧ (R.str (pre2 ++ R.lnTgs (r.tg.take k))).size ≤ 25000000 + 6100 * k ∧ Hid (wq.grownBy wr none)) (fun _ iv _ => r.tg.length - (intOf iv).toNat)
      case atStart => exact ⟨0, Nat.zero_le _, rfl, by simp [R.lnTgs], by simpa [R.lnTgs] using hz2, HR.out⟩
      case round =>
        obtain ⟨k, hk, rfl, rfl, hsz, HR⟩ := hrel
        have BXr := keep_block HBX.out HR.out (by simp)
        have bx0 : wr.cell? ⟨w.heap.size, 0, none⟩ = some (.int .i64 r.number) := cell_of_block BXr
        have bx1 : wr.cell? ⟨w.heap.size, 1, none⟩ = some (.string (R.str r.path)) := cell_of_block BXr
        have bx2 : wr.cell? ⟨w.heap.size, 2, none⟩ = some (.slice m1 r.ms.length m2) := cell_of_block BXr
        have bx3 : wr.cell? ⟨w.heap.size, 3, none⟩ = some (.slice t1 r.tg.length t2) := cell_of_block BXr
        have bx4 : wr.cell? ⟨w.heap.size, 4, none⟩ = some (.bool r.change) := cell_of_block BXr
        have bx5 : wr.cell? ⟨w.heap.size, 5, none⟩ = some (.string (R.str r.to)) := cell_of_block BXr
        have bx6 : wr.cell? ⟨w.heap.size, 6, none⟩ = some (.slice x1 r.sets.length x2) := cell_of_block BXr
        have bx7 : wr.cell? ⟨w.heap.size, 7, none⟩ = some (.slice d1 r.drops.length d2) := cell_of_block BXr
        clear BXr
        have hbl : w.heap.size < wr.heap.size := by have h1 := block_lt HBX.out; have h2 := HR.out.size; omega
        by_cases hlt : k < r.tg.length
        · obtain ⟨gm, gmc, hgm, _, _⟩ := World.ownsRow.form HT.out (by omega)
          simp only [Value.slice.injEq] at hgm
          obtain ⟨rfl, _, rfl⟩ := hgm
          have hW : w.grownBy wr none := grown_trans HGa.out HR.out
          have e0 : wr.cell? ⟨gm, k * 2, none⟩ = some (.string (R.str r.tg[k].1)) := row_get (fun t : List UInt8 × Int => [Value.string (R.str t.1), .int .i64 t.2]) 2 (fun _ => rfl) HT.out hW k 0 hlt (by omega) rfl
          have e1 : wr.cell? ⟨gm, k * 2 + 1, none⟩ = some (.int .i64 r.tg[k].2) := row_get (fun t : List UInt8 × Int => [Value.string (R.str t.1), .int .i64 t.2]) 2 (fun _ => rfl) HT.out hW k 1 hlt (by omega) rfl
          clear hW
          have HF : Hid _ := R.lnTgs_snoc r.tg k hlt
          have hlm := HSm.out.tg.1
          have hsm := HSm.out.tg.2 r.tg[k] (List.getElem_mem hlt)
          generalize r.tg[k] = m at *
          have zn : (R.str (R.q m.1)).size ≤ 3002 := by rw [R.str_size, R.q_len]; omega
          have zv : (R.str (R.decI m.2)).size ≤ 5 := by rw [R.str_size]; exact R.decI_len _ hsm.2
          have hn1 : Hid (m.1.length ≤ 100000) := by show _ ≤ _; omega
          have hn2 : Hid (0 ≤ m.2 ∧ m.2 ≤ 99999) := hsm.2
          have hll : ((if k = 0 then [] else [44, 32]) ++ R.lnTg m).length ≤ 6100 := by
            rw [R.str_size] at zn zv
            unfold R.lnTg; split <;> simp only [List.length_append, List.length_cons, List.length_nil] <;> omega
          clear hsm
          have HSz : Hid ((R.str (pre2 ++ R.lnTgs (r.tg.take (k + 1)))).size ≤ 25000000 + 6100 * (k + 1)) := by
            show _ ≤ _
            rw [R.str_size] at hsz
            rw [R.str_size, HF.out, ← List.append_assoc, List.length_append]; omega
          have Hend : Hid (∀ x : ByteArray, x.data.toList = (pre2 ++ R.lnTgs (r.tg.take k)) ++ ((if k = 0 then [] else [44, 32]) ++ R.lnTg m) → Value.string x = .string (R.str (pre2 ++ R.lnTgs (r.tg.take (k + 1))))) := by
            intro x hx
            have : x = R.str (pre2 ++ R.lnTgs (r.tg.take (k + 1))) := by
              apply str_ext; rw [R.str_toList, HF.out, hx, List.append_assoc]
            rw [← this]
          clear hll
          generalize pre2 ++ R.lnTgs (r.tg.take k) = acc at *
          by_cases hk0 : k = 0
          · rw [if_pos hk0] at Hend
            have hltI : (k : Int) < r.tg.length := by omega
            have hk1 : (k : Int) ≤ 0 := by omega
            clear hk0
            go_wp2_with fail
            go_quiet ((first | (go_at_call 91; exact Calls.quiet_of_same (ref_decimalS _ _ hn2.out)) | (go_at_call 54; exact Calls.quiet_of_same (ref_quoteS _ _ hn1.out))))
            go_wp2
            refine ⟨⟨k + 1, by omega, by go_num, Hend.out _ ?_, HSz.out, grown_trans HR.out (grown_drewN' _ _)⟩, by simp [intOf]; omega⟩
            rw [app_data, app_data, app_data, R.str_toList, R.str_toList, R.str_toList, R.lnTg]; simp
          · rw [if_neg hk0] at Hend
            have hk1 : (0 : Int) < k := by omega
            have hltI : (k : Int) < r.tg.length := by omega
            clear hk0
            go_wp2_with fail
            go_quiet ((first | (go_at_call 91; exact Calls.quiet_of_same (ref_decimalS _ _ hn2.out)) | (go_at_call 54; exact Calls.quiet_of_same (ref_quoteS _ _ hn1.out))))
            go_wp2
            refine ⟨⟨k + 1, by omega, by go_num, Hend.out _ ?_, HSz.out, grown_trans HR.out (grown_drewN' _ _)⟩, by simp [intOf]; omega⟩
            rw [app_data, app_data, app_data, app_data, R.str_toList, R.str_toList, R.str_toList, R.lnTg]; simp
        · have hke : k = r.tg.length := by omega
          subst hke
          rw [List.take_of_length_le (Nat.le_refl _)] at hsz
          rw [List.take_of_length_le (Nat.le_refl _)]
          have hlm := HSm.out.tg.1
          have hto := HSm.out.to
          have ztq : (R.str (R.q r.to)).size ≤ 3002 := by rw [R.str_size, R.q_len]; omega
          have hn1 : Hid (r.to.length ≤ 100000) := by show _ ≤ _; omega
          have HTo : Hid (R.lnTo r = if r.change then [32, 32, 32, 32, 114, 101, 112, 108, 97, 99, 101, 32] ++ R.q r.to ++ [59, 10] else []) := rfl
          have hzt : (R.lnTo r).length ≤ 4000 := by
            rw [R.str_size, R.q_len] at ztq; unfold R.lnTo
            split
            · simp only [List.length_append, R.q_len, List.length_cons, List.length_nil]; omega
            · simp
          have hz3 : (R.str (pre2 ++ R.lnTgs r.tg ++ [59, 10] ++ R.lnTo r)).size ≤ 50000000 := by
            rw [R.str_size] at hsz ⊢; rw [List.length_append, List.length_append]; simp only [List.length_cons, List.length_nil]; omega
          have HQ3 : Hid (R.lnHead r ++ (r.ms.map R.lnMt).flatten ++ [32, 32, 32, 32, 116, 111, 32] ++ R.lnTgs r.tg ++ [59, 10] ++ R.lnTo r = pre2 ++ R.lnTgs r.tg ++ [59, 10] ++ R.lnTo r) := by rw [HQ2.out]; rfl
          have E3 : Hid (∀ x : ByteArray, x.data.toList = pre2 ++ R.lnTgs r.tg ++ [59, 10] ++ R.lnTo r → Value.string x = .string (R.str (pre2 ++ R.lnTgs r.tg ++ [59, 10] ++ R.lnTo r))) := by
            intro x hx; rw [← hx, R.str_of]
          have hszA : (R.str (pre2 ++ R.lnTgs r.tg)).size ≤ 49500000 := by omega
          generalize hA : pre2 ++ R.lnTgs r.tg = accA at *
          clear hsz hz2 hto hzt
          generalize hpre3 : accA ++ [59, 10] ++ R.lnTo r = pre3 at *
          have HP3 : Hid (accA ++ [59, 10] ++ R.lnTo r = pre3) := hpre3
          clear hpre3
          cases hch : r.change
          · rw [hch] at HTo
            go_wp2_with fail
            rw [E3.out (R.str accA ++ ⟨#[59, 10]⟩) (by rw [app_data, R.str_toList, ← HP3.out, HTo.out]; simp)]
            go_loopw [3, 6] (fun sv iv wr => ∃ k : Nat, k ≤ r.sets.length ∧ iv = .int .i64 k ∧ sv = .string (R.str (pre3 ++ ((r.sets.take k).map R.lnSet).flatten)) ∧ (R.str (pre3 ++ ((r.sets.take k).map R.lnSet).flatten)).size ≤ 50000000 + 6100 * k ∧ Hid (wq.grownBy wr none)) (fun _ iv _ => r.sets.length - (intOf iv).toNat)
            case atStart => exact ⟨0, Nat.zero_le _, rfl, by simp, by simpa using hz3, HR.out⟩
            case round =>
              obtain ⟨k, hk, rfl, rfl, hsz, HR⟩ := hrel
              have BXr := keep_block HBX.out HR.out (by simp)
              have bx0 : wr.cell? ⟨w.heap.size, 0, none⟩ = some (.int .i64 r.number) := cell_of_block BXr
              have bx1 : wr.cell? ⟨w.heap.size, 1, none⟩ = some (.string (R.str r.path)) := cell_of_block BXr
              have bx2 : wr.cell? ⟨w.heap.size, 2, none⟩ = some (.slice m1 r.ms.length m2) := cell_of_block BXr
              have bx3 : wr.cell? ⟨w.heap.size, 3, none⟩ = some (.slice t1 r.tg.length t2) := cell_of_block BXr
              have bx4 : wr.cell? ⟨w.heap.size, 4, none⟩ = some (.bool r.change) := cell_of_block BXr
              have bx5 : wr.cell? ⟨w.heap.size, 5, none⟩ = some (.string (R.str r.to)) := cell_of_block BXr
              have bx6 : wr.cell? ⟨w.heap.size, 6, none⟩ = some (.slice x1 r.sets.length x2) := cell_of_block BXr
              have bx7 : wr.cell? ⟨w.heap.size, 7, none⟩ = some (.slice d1 r.drops.length d2) := cell_of_block BXr
              clear BXr
              have hbl : w.heap.size < wr.heap.size := by have h1 := block_lt HBX.out; have h2 := HR.out.size; omega
              by_cases hlt : k < r.sets.length
              · obtain ⟨gm, gmc, hgm, _, _⟩ := World.ownsRow.form HS.out (by omega)
                simp only [Value.slice.injEq] at hgm
                obtain ⟨rfl, _, rfl⟩ := hgm
                have hW : w.grownBy wr none := grown_trans HGa.out HR.out
                have e0 : wr.cell? ⟨gm, k * 2, none⟩ = some (.string (R.str r.sets[k].1)) := row_get (fun t : List UInt8 × List UInt8 => [Value.string (R.str t.1), .string (R.str t.2)]) 2 (fun _ => rfl) HS.out hW k 0 hlt (by omega) rfl
                have e1 : wr.cell? ⟨gm, k * 2 + 1, none⟩ = some (.string (R.str r.sets[k].2)) := row_get (fun t : List UInt8 × List UInt8 => [Value.string (R.str t.1), .string (R.str t.2)]) 2 (fun _ => rfl) HS.out hW k 1 hlt (by omega) rfl
                clear hW
                have HF : Hid _ := flat_snoc R.lnSet r.sets k hlt
                have hlm := HSm.out.sets.1
                have hsm := HSm.out.sets.2 r.sets[k] (List.getElem_mem hlt)
                generalize r.sets[k] = m at *
                have zn : (R.str (R.q m.1)).size ≤ 3002 := by rw [R.str_size, R.q_len]; omega
                have zv : (R.str (R.q m.2)).size ≤ 3002 := by rw [R.str_size, R.q_len]; omega
                have hn1 : Hid (m.1.length ≤ 100000) := by show _ ≤ _; omega
                have hn2 : Hid (m.2.length ≤ 100000) := by show _ ≤ _; omega
                have hltI : (k : Int) < r.sets.length := by omega
                have hll : (R.lnSet m).length ≤ 6100 := by
                  unfold R.lnSet; simp only [List.length_append, R.q_len, List.length_cons, List.length_nil]; omega
                clear hsm
                have HSz : Hid ((R.str (pre3 ++ ((r.sets.take (k + 1)).map R.lnSet).flatten)).size ≤ 50000000 + 6100 * (k + 1)) := by
                  show _ ≤ _
                  rw [R.str_size] at hsz
                  rw [R.str_size, HF.out, ← List.append_assoc, List.length_append]; omega
                have Hend : Hid (∀ x : ByteArray, x.data.toList = (pre3 ++ ((r.sets.take k).map R.lnSet).flatten) ++ (R.lnSet m) → Value.string x = .string (R.str (pre3 ++ ((r.sets.take (k + 1)).map R.lnSet).flatten))) := by
                  intro x hx
                  have : x = R.str (pre3 ++ ((r.sets.take (k + 1)).map R.lnSet).flatten) := by
                    apply str_ext; rw [R.str_toList, HF.out, hx, List.append_assoc]
                  rw [← this]
                clear hll
                generalize pre3 ++ ((r.sets.take k).map R.lnSet).flatten = acc at *
                go_wp2_with fail
                go_quiet ((first | (go_at_call_of 54 (.string (R.str m.1)); exact Calls.quiet_of_same (ref_quoteS _ _ hn1.out)) | (go_at_call 54; exact Calls.quiet_of_same (ref_quoteS _ _ hn1.out)) | (go_at_call 54; exact Calls.quiet_of_same (ref_quoteS _ _ hn2.out))))
                go_wp2
                refine ⟨⟨k + 1, by omega, by go_num, Hend.out _ ?_, HSz.out, grown_trans HR.out (grown_drewN' _ _)⟩, by simp [intOf]; omega⟩
                rw [app_data, app_data, app_data, app_data, app_data, R.str_toList, R.str_toList, R.str_toList, R.lnSet]; simp
              · have hke : k = r.sets.length := by omega
                subst hke
                rw [List.take_of_length_le (Nat.le_refl _)] at hsz
                rw [List.take_of_length_le (Nat.le_refl _)]
                have hlm := HSm.out.sets.1
                have hz4 : (R.str (pre3 ++ (r.sets.map R.lnSet).flatten)).size ≤ 80000000 := by omega
                have HQ4 : Hid (pre3 ++ (r.sets.map R.lnSet).flatten = pre3 ++ (r.sets.map R.lnSet).flatten) := rfl
                generalize hpre4 : pre3 ++ (r.sets.map R.lnSet).flatten = pre4 at *
                have HP4 : Hid (pre3 ++ (r.sets.map R.lnSet).flatten = pre4) := hpre4
                clear hpre4 HQ4 hsz hz3
                go_wp2_with fail
                go_loopw [3, 7] (fun sv iv wr => ∃ k : Nat, k ≤ r.drops.length ∧ iv = .int .i64 k ∧ sv = .string (R.str (pre4 ++ ((r.drops.take k).map R.lnDrop).flatten)) ∧ (R.str (pre4 ++ ((r.drops.take k).map R.lnDrop).flatten)).size ≤ 80000000 + 6100 * k ∧ Hid (wq.grownBy wr none)) (fun _ iv _ => r.drops.length - (intOf iv).toNat)
                case atStart => exact ⟨0, Nat.zero_le _, rfl, by simp, by simpa using hz4, HR.out⟩
                case round =>
                  obtain ⟨k, hk, rfl, rfl, hsz, HR⟩ := hrel
                  have BXr := keep_block HBX.out HR.out (by simp)
                  have bx0 : wr.cell? ⟨w.heap.size, 0, none⟩ = some (.int .i64 r.number) := cell_of_block BXr
                  have bx1 : wr.cell? ⟨w.heap.size, 1, none⟩ = some (.string (R.str r.path)) := cell_of_block BXr
                  have bx2 : wr.cell? ⟨w.heap.size, 2, none⟩ = some (.slice m1 r.ms.length m2) := cell_of_block BXr
                  have bx3 : wr.cell? ⟨w.heap.size, 3, none⟩ = some (.slice t1 r.tg.length t2) := cell_of_block BXr
                  have bx4 : wr.cell? ⟨w.heap.size, 4, none⟩ = some (.bool r.change) := cell_of_block BXr
                  have bx5 : wr.cell? ⟨w.heap.size, 5, none⟩ = some (.string (R.str r.to)) := cell_of_block BXr
                  have bx6 : wr.cell? ⟨w.heap.size, 6, none⟩ = some (.slice x1 r.sets.length x2) := cell_of_block BXr
                  have bx7 : wr.cell? ⟨w.heap.size, 7, none⟩ = some (.slice d1 r.drops.length d2) := cell_of_block BXr
                  clear BXr
                  have hbl : w.heap.size < wr.heap.size := by have h1 := block_lt HBX.out; have h2 := HR.out.size; omega
                  by_cases hlt : k < r.drops.length
                  · obtain ⟨gm, gmc, hgm, _, _⟩ := World.ownsRow.form HD.out (by omega)
                    simp only [Value.slice.injEq] at hgm
                    obtain ⟨rfl, _, rfl⟩ := hgm
                    have hW : w.grownBy wr none := grown_trans HGa.out HR.out
                    have e0 : wr.cell? ⟨gm, k, none⟩ = some (.string (R.str r.drops[k])) := by have h := row_get (fun s : List UInt8 => [Value.string (R.str s)]) 1 (fun _ => rfl) (strRow1 HD.out) hW k 0 hlt (by omega) rfl; simpa using h
                    clear hW
                    have HF : Hid _ := flat_snoc R.lnDrop r.drops k hlt
                    have hlm := HSm.out.drops.1
                    have hsm := HSm.out.drops.2 r.drops[k] (List.getElem_mem hlt)
                    generalize r.drops[k] = m at *
                    have zn : (R.str (R.q m)).size ≤ 3002 := by rw [R.str_size, R.q_len]; omega
                    have hn1 : Hid (m.length ≤ 100000) := by show _ ≤ _; omega
                    have hll : (R.lnDrop m).length ≤ 6100 := by
                      unfold R.lnDrop; simp only [List.length_append, R.q_len, List.length_cons, List.length_nil]; omega
                    clear hsm
                    have HSz : Hid ((R.str (pre4 ++ ((r.drops.take (k + 1)).map R.lnDrop).flatten)).size ≤ 80000000 + 6100 * (k + 1)) := by
                      show _ ≤ _
                      rw [R.str_size] at hsz
                      rw [R.str_size, HF.out, ← List.append_assoc, List.length_append]; omega
                    have Hend : Hid (∀ x : ByteArray, x.data.toList = (pre4 ++ ((r.drops.take k).map R.lnDrop).flatten) ++ (R.lnDrop m) → Value.string x = .string (R.str (pre4 ++ ((r.drops.take (k + 1)).map R.lnDrop).flatten))) := by
                      intro x hx
                      have : x = R.str (pre4 ++ ((r.drops.take (k + 1)).map R.lnDrop).flatten) := by
                        apply str_ext; rw [R.str_toList, HF.out, hx, List.append_assoc]
                      rw [← this]
                    clear hll
                    generalize pre4 ++ ((r.drops.take k).map R.lnDrop).flatten = acc at *
                    go_wp2_with fail
                    refine (ref_quoteS m _ hn1.out).mono ?_
                    rintro e wX ⟨rfl, hwX⟩
                    rw [hwX]
                    clear hwX wX
                    go_wp2
                    refine ⟨⟨k + 1, by omega, by go_num, Hend.out _ ?_, HSz.out, HR.out⟩, by simp [intOf]; omega⟩
                    rw [app_data, app_data, app_data, R.str_toList, R.str_toList, R.lnDrop]; simp
                  · have hke : k = r.drops.length := by omega
                    subst hke
                    rw [List.take_of_length_le (Nat.le_refl _)] at hsz
                    rw [List.take_of_length_le (Nat.le_refl _)]
                    have hlm := HSm.out.drops.1
                    have HFin : Hid (R.lines r = pre4 ++ (r.drops.map R.lnDrop).flatten ++ [32, 32, 125, 10]) := by
                      show R.lines r = _
                      rw [← HP4.out, ← HP3.out, ← hA, ← HQ2.out]; rfl
                    go_wp2
                    go_ret
                    refine ⟨ret_str ?_, grown_trans HGa.out HR.out⟩
                    apply str_ext
                    rw [HFin.out, app_data, R.str_toList, R.str_toList]
          · rw [hch] at HTo
            go_wp2_with fail
            refine (ref_quoteS r.to _ hn1.out).mono ?_
            rintro e wX ⟨rfl, hwX⟩
            rw [hwX]
            clear hwX wX
            go_wp2_with fail
            rw [E3.out (R.str accA ++ ⟨#[59, 10]⟩ ++ ⟨#[32, 32, 32, 32, 114, 101, 112, 108, 97, 99, 101, 32]⟩ ++ R.str (R.q r.to) ++ ⟨#[59, 10]⟩) (by rw [app_data, app_data, app_data, app_data, R.str_toList, R.str_toList, ← HP3.out, HTo.out]; simp)]
            go_loopw [3, 6] (fun sv iv wr => ∃ k : Nat, k ≤ r.sets.length ∧ iv = .int .i64 k ∧ sv = .string (R.str (pre3 ++ ((r.sets.take k).map R.lnSet).flatten)) ∧ (R.str (pre3 ++ ((r.sets.take k).map R.lnSet).flatten)).size ≤ 50000000 + 6100 * k ∧ Hid (wq.grownBy wr none)) (fun _ iv _ => r.sets.length - (intOf iv).toNat)
            case atStart => exact ⟨0, Nat.zero_le _, rfl, by simp, by simpa using hz3, HR.out⟩
            case round =>
              obtain ⟨k, hk, rfl, rfl, hsz, HR⟩ := hrel
              have BXr := keep_block HBX.out HR.out (by simp)
              have bx0 : wr.cell? ⟨w.heap.size, 0, none⟩ = some (.int .i64 r.number) := cell_of_block BXr
              have bx1 : wr.cell? ⟨w.heap.size, 1, none⟩ = some (.string (R.str r.path)) := cell_of_block BXr
              have bx2 : wr.cell? ⟨w.heap.size, 2, none⟩ = some (.slice m1 r.ms.length m2) := cell_of_block BXr
              have bx3 : wr.cell? ⟨w.heap.size, 3, none⟩ = some (.slice t1 r.tg.length t2) := cell_of_block BXr
              have bx4 : wr.cell? ⟨w.heap.size, 4, none⟩ = some (.bool r.change) := cell_of_block BXr
              have bx5 : wr.cell? ⟨w.heap.size, 5, none⟩ = some (.string (R.str r.to)) := cell_of_block BXr
              have bx6 : wr.cell? ⟨w.heap.size, 6, none⟩ = some (.slice x1 r.sets.length x2) := cell_of_block BXr
              have bx7 : wr.cell? ⟨w.heap.size, 7, none⟩ = some (.slice d1 r.drops.length d2) := cell_of_block BXr
              clear BXr
              have hbl : w.heap.size < wr.heap.size := by have h1 := block_lt HBX.out; have h2 := HR.out.size; omega
              by_cases hlt : k < r.sets.length
              · obtain ⟨gm, gmc, hgm, _, _⟩ := World.ownsRow.form HS.out (by omega)
                simp only [Value.slice.injEq] at hgm
                obtain ⟨rfl, _, rfl⟩ := hgm
                have hW : w.grownBy wr none := grown_trans HGa.out HR.out
                have e0 : wr.cell? ⟨gm, k * 2, none⟩ = some (.string (R.str r.sets[k].1)) := row_get (fun t : List UInt8 × List UInt8 => [Value.string (R.str t.1), .string (R.str t.2)]) 2 (fun _ => rfl) HS.out hW k 0 hlt (by omega) rfl
                have e1 : wr.cell? ⟨gm, k * 2 + 1, none⟩ = some (.string (R.str r.sets[k].2)) := row_get (fun t : List UInt8 × List UInt8 => [Value.string (R.str t.1), .string (R.str t.2)]) 2 (fun _ => rfl) HS.out hW k 1 hlt (by omega) rfl
                clear hW
                have HF : Hid _ := flat_snoc R.lnSet r.sets k hlt
                have hlm := HSm.out.sets.1
                have hsm := HSm.out.sets.2 r.sets[k] (List.getElem_mem hlt)
                generalize r.sets[k] = m at *
                have zn : (R.str (R.q m.1)).size ≤ 3002 := by rw [R.str_size, R.q_len]; omega
                have zv : (R.str (R.q m.2)).size ≤ 3002 := by rw [R.str_size, R.q_len]; omega
                have hn1 : Hid (m.1.length ≤ 100000) := by show _ ≤ _; omega
                have hn2 : Hid (m.2.length ≤ 100000) := by show _ ≤ _; omega
                have hltI : (k : Int) < r.sets.length := by omega
                have hll : (R.lnSet m).length ≤ 6100 := by
                  unfold R.lnSet; simp only [List.length_append, R.q_len, List.length_cons, List.length_nil]; omega
                clear hsm
                have HSz : Hid ((R.str (pre3 ++ ((r.sets.take (k + 1)).map R.lnSet).flatten)).size ≤ 50000000 + 6100 * (k + 1)) := by
                  show _ ≤ _
                  rw [R.str_size] at hsz
                  rw [R.str_size, HF.out, ← List.append_assoc, List.length_append]; omega
                have Hend : Hid (∀ x : ByteArray, x.data.toList = (pre3 ++ ((r.sets.take k).map R.lnSet).flatten) ++ (R.lnSet m) → Value.string x = .string (R.str (pre3 ++ ((r.sets.take (k + 1)).map R.lnSet).flatten))) := by
                  intro x hx
                  have : x = R.str (pre3 ++ ((r.sets.take (k + 1)).map R.lnSet).flatten) := by
                    apply str_ext; rw [R.str_toList, HF.out, hx, List.append_assoc]
                  rw [← this]
                clear hll
                generalize pre3 ++ ((r.sets.take k).map R.lnSet).flatten = acc at *
                go_wp2_with fail
                go_quiet ((first | (go_at_call_of 54 (.string (R.str m.1)); exact Calls.quiet_of_same (ref_quoteS _ _ hn1.out)) | (go_at_call 54; exact Calls.quiet_of_same (ref_quoteS _ _ hn1.out)) | (go_at_call 54; exact Calls.quiet_of_same (ref_quoteS _ _ hn2.out))))
                go_wp2
                refine ⟨⟨k + 1, by omega, by go_num, Hend.out _ ?_, HSz.out, grown_trans HR.out (grown_drewN' _ _)⟩, by simp [intOf]; omega⟩
                rw [app_data, app_data, app_data, app_data, app_data, R.str_toList, R.str_toList, R.str_toList, R.lnSet]; simp
              · have hke : k = r.sets.length := by omega
                subst hke
                rw [List.take_of_length_le (Nat.le_refl _)] at hsz
                rw [List.take_of_length_le (Nat.le_refl _)]
                have hlm := HSm.out.sets.1
                have hz4 : (R.str (pre3 ++ (r.sets.map R.lnSet).flatten)).size ≤ 80000000 := by omega
                have HQ4 : Hid (pre3 ++ (r.sets.map R.lnSet).flatten = pre3 ++ (r.sets.map R.lnSet).flatten) := rfl
                generalize hpre4 : pre3 ++ (r.sets.map R.lnSet).flatten = pre4 at *
                have HP4 : Hid (pre3 ++ (r.sets.map R.lnSet).flatten = pre4) := hpre4
                clear hpre4 HQ4 hsz hz3
                go_wp2_with fail
                go_loopw [3, 7] (fun sv iv wr => ∃ k : Nat, k ≤ r.drops.length ∧ iv = .int .i64 k ∧ sv = .string (R.str (pre4 ++ ((r.drops.take k).map R.lnDrop).flatten)) ∧ (R.str (pre4 ++ ((r.drops.take k).map R.lnDrop).flatten)).size ≤ 80000000 + 6100 * k ∧ Hid (wq.grownBy wr none)) (fun _ iv _ => r.drops.length - (intOf iv).toNat)
                case atStart => exact ⟨0, Nat.zero_le _, rfl, by simp, by simpa using hz4, HR.out⟩
                case round =>
                  obtain ⟨k, hk, rfl, rfl, hsz, HR⟩ := hrel
                  have BXr := keep_block HBX.out HR.out (by simp)
                  have bx0 : wr.cell? ⟨w.heap.size, 0, none⟩ = some (.int .i64 r.number) := cell_of_block BXr
                  have bx1 : wr.cell? ⟨w.heap.size, 1, none⟩ = some (.string (R.str r.path)) := cell_of_block BXr
                  have bx2 : wr.cell? ⟨w.heap.size, 2, none⟩ = some (.slice m1 r.ms.length m2) := cell_of_block BXr
                  have bx3 : wr.cell? ⟨w.heap.size, 3, none⟩ = some (.slice t1 r.tg.length t2) := cell_of_block BXr
                  have bx4 : wr.cell? ⟨w.heap.size, 4, none⟩ = some (.bool r.change) := cell_of_block BXr
                  have bx5 : wr.cell? ⟨w.heap.size, 5, none⟩ = some (.string (R.str r.to)) := cell_of_block BXr
                  have bx6 : wr.cell? ⟨w.heap.size, 6, none⟩ = some (.slice x1 r.sets.length x2) := cell_of_block BXr
                  have bx7 : wr.cell? ⟨w.heap.size, 7, none⟩ = some (.slice d1 r.drops.length d2) := cell_of_block BXr
                  clear BXr
                  have hbl : w.heap.size < wr.heap.size := by have h1 := block_lt HBX.out; have h2 := HR.out.size; omega
                  by_cases hlt : k < r.drops.length
                  · obtain ⟨gm, gmc, hgm, _, _⟩ := World.ownsRow.form HD.out (by omega)
                    simp only [Value.slice.injEq] at hgm
                    obtain ⟨rfl, _, rfl⟩ := hgm
                    have hW : w.grownBy wr none := grown_trans HGa.out HR.out
                    have e0 : wr.cell? ⟨gm, k, none⟩ = some (.string (R.str r.drops[k])) := by have h := row_get (fun s : List UInt8 => [Value.string (R.str s)]) 1 (fun _ => rfl) (strRow1 HD.out) hW k 0 hlt (by omega) rfl; simpa using h
                    clear hW
                    have HF : Hid _ := flat_snoc R.lnDrop r.drops k hlt
                    have hlm := HSm.out.drops.1
                    have hsm := HSm.out.drops.2 r.drops[k] (List.getElem_mem hlt)
                    generalize r.drops[k] = m at *
                    have zn : (R.str (R.q m)).size ≤ 3002 := by rw [R.str_size, R.q_len]; omega
                    have hn1 : Hid (m.length ≤ 100000) := by show _ ≤ _; omega
                    have hll : (R.lnDrop m).length ≤ 6100 := by
                      unfold R.lnDrop; simp only [List.length_append, R.q_len, List.length_cons, List.length_nil]; omega
                    clear hsm
                    have HSz : Hid ((R.str (pre4 ++ ((r.drops.take (k + 1)).map R.lnDrop).flatten)).size ≤ 80000000 + 6100 * (k + 1)) := by
                      show _ ≤ _
                      rw [R.str_size] at hsz
                      rw [R.str_size, HF.out, ← List.append_assoc, List.length_append]; omega
                    have Hend : Hid (∀ x : ByteArray, x.data.toList = (pre4 ++ ((r.drops.take k).map R.lnDrop).flatten) ++ (R.lnDrop m) → Value.string x = .string (R.str (pre4 ++ ((r.drops.take (k + 1)).map R.lnDrop).flatten))) := by
                      intro x hx
                      have : x = R.str (pre4 ++ ((r.drops.take (k + 1)).map R.lnDrop).flatten) := by
                        apply str_ext; rw [R.str_toList, HF.out, hx, List.append_assoc]
                      rw [← this]
                    clear hll
                    generalize pre4 ++ ((r.drops.take k).map R.lnDrop).flatten = acc at *
                    go_wp2_with fail
                    refine (ref_quoteS m _ hn1.out).mono ?_
                    rintro e wX ⟨rfl, hwX⟩
                    rw [hwX]
                    clear hwX wX
                    go_wp2
                    refine ⟨⟨k + 1, by omega, by go_num, Hend.out _ ?_, HSz.out, HR.out⟩, by simp [intOf]; omega⟩
                    rw [app_data, app_data, app_data, R.str_toList, R.str_toList, R.lnDrop]; simp
                  · have hke : k = r.drops.length := by omega
                    subst hke
                    rw [List.take_of_length_le (Nat.le_refl _)] at hsz
                    rw [List.take_of_length_le (Nat.le_refl _)]
                    have hlm := HSm.out.drops.1
                    have HFin : Hid (R.lines r = pre4 ++ (r.drops.map R.lnDrop).flatten ++ [32, 32, 125, 10]) := by
                      show R.lines r = _
                      rw [← HP4.out, ← HP3.out, ← hA, ← HQ2.out]; rfl
                    go_wp2
                    go_ret
                    refine ⟨ret_str ?_, grown_trans HGa.out HR.out⟩
                    apply str_ext
                    rw [HFin.out, app_data, R.str_toList, R.str_toList]

end Go.Proofs.YtfocdefchbnkpaaGreatDoor

/- A policy in its plain form, as the document's own function writes it. -/
namespace Go.Proofs.YtfocdefchbnkpaaGreatDoor
open Go.RowKit
namespace R

theorem flat_len {α : Type} (f : α → List UInt8) (c : Nat) (l : List α) (h : ∀ a ∈ l, (f a).length ≤ c) : (l.map f).flatten.length ≤ l.length * c := by
  induction l with
  | nil => simp
  | cons a l ih =>
    rw [List.map_cons, List.flatten_cons, List.length_append, List.length_cons, Nat.succ_mul]
    have h1 := h a (by simp)
    have h2 := ih (fun b hb => h b (by simp [hb]))
    omega
theorem lines_len (r : Rl) (hs : Small r) : (lines r).length ≤ 110000000 := by
  have h1 : (r.ms.map lnMt).flatten.length ≤ r.ms.length * 6100 := flat_len _ _ _ (fun m hm => by
    have := hs.ms.2 m hm
    unfold lnMt; split <;> simp only [List.length_append, q_len, List.length_cons, List.length_nil] <;> omega)
  have ht : ∀ t ∈ r.tg, (lnTg t).length ≤ 3100 := fun t ht => by
    have h := hs.tg.2 t ht
    have h5 := decI_len t.2 h.2
    unfold lnTg; simp only [List.length_append, q_len, List.length_cons, List.length_nil]; omega
  have h2 : (lnTgs r.tg).length ≤ r.tg.length * 3200 := by
    cases hg : r.tg with
    | nil => simp [lnTgs]
    | cons t l =>
      rw [hg] at ht
      have h3 := ht t (by simp)
      have h4 : (l.map fun u => [44, 32] ++ lnTg u).flatten.length ≤ l.length * 3200 := flat_len _ _ _ (fun u hu => by
        have := ht u (by simp [hu]); simp only [List.length_append, List.length_cons, List.length_nil]; omega)
      unfold lnTgs
      rw [List.length_append, List.length_cons, Nat.succ_mul]; omega
  have h3 : (r.sets.map lnSet).flatten.length ≤ r.sets.length * 6100 := flat_len _ _ _ (fun m hm => by
    have := hs.sets.2 m hm
    unfold lnSet; simp only [List.length_append, q_len, List.length_cons, List.length_nil]; omega)
  have h4 : (r.drops.map lnDrop).flatten.length ≤ r.drops.length * 6100 := flat_len _ _ _ (fun m hm => by
    have := hs.drops.2 m hm
    unfold lnDrop; simp only [List.length_append, q_len, List.length_cons, List.length_nil]; omega)
  have h5 := decI_len r.number hs.num
  have h6 := hs.path
  have h7 := hs.to
  have h8 : (lnTo r).length ≤ 4000 := by
    unfold lnTo; split
    · simp only [List.length_append, q_len, List.length_cons, List.length_nil]; omega
    · simp
  have m1 := hs.ms.1
  have m2 := hs.tg.1
  have m3 := hs.sets.1
  have m4 := hs.drops.1
  unfold lines lnHead
  simp only [List.length_append, q_len, List.length_cons, List.length_nil]
  omega

def hostLines (h : Hst) : List UInt8 := [104, 111, 115, 116, 32] ++ q h.name ++ [32, 123, 10] ++ (h.rules.map lines).flatten ++ [125, 10]
def plain (hs : List Hst) : List UInt8 := (hs.map hostLines).flatten

structure SmallH (h : Hst) : Prop where
  name : h.name.length ≤ 3000
  rules : h.rules.length ≤ 4000 ∧ ∀ r ∈ h.rules, Small r

end R

theorem hosts_rules {w : World} {css : List (List Value)} {hs : List R.Hst} (h : All2 (HostVal w) css hs) (k : Nat) (hk : k < hs.length) : ∃ vR, css.flatten[k * 2 + 1]? = some vR ∧ RulesRow w vR hs[k].rules := by
  induction h generalizing k with
  | nil => simp at hk
  | @cons c r cs rs hc _ ih =>
    obtain ⟨vR, rfl, hr⟩ := hc
    match k with
    | 0 => exact ⟨vR, rfl, hr⟩
    | k + 1 =>
      obtain ⟨v, h1, h2⟩ := ih k (by simpa using hk)
      refine ⟨v, ?_, h2⟩
      rw [List.flatten_cons, List.getElem?_append_right (by simp; omega)]
      simp only [List.length_cons, List.length_nil]
      rw [show (k + 1) * 2 + 1 - (0 + 1 + 1) = k * 2 + 1 by omega]
      exact h1
theorem rules_cellO {w : World} {css : List (List Value)} {rs : List R.Rl} (h : All2 (RuleVal w) css rs) (k : Nat) (hk : k < rs.length) : ∃ cs, RuleVal w cs rs[k] ∧ ∀ j, j < 8 → css.flatten[k * 8 + j]? = cs[j]? := by
  induction h generalizing k with
  | nil => simp at hk
  | @cons c r cs rs hc _ ih =>
    have e : c.length = 8 := by obtain ⟨vM, vT, vS, vD, rfl, _⟩ := hc; rfl
    match k with
    | 0 => exact ⟨c, hc, fun j hj => by rw [List.flatten_cons, List.getElem?_append_left (by omega)]; simp⟩
    | k + 1 =>
      obtain ⟨d, h1, h2⟩ := ih k (by simpa using hk)
      refine ⟨d, h1, fun j hj => ?_⟩
      rw [List.flatten_cons, List.getElem?_append_right (by omega), e, show (k + 1) * 8 + j - 8 = k * 8 + j by omega, h2 j hj]

set_option maxRecDepth 100000 in
set_option maxHeartbeats 4000000 in
theorem ref_Plain {w : World} {B : Nat} (v : Value) (hs : List R.Hst) (hH : HostsRow w B v hs) (hn : hs.length ≤ 4000) (hsm : ∀ h ∈ hs, R.SmallH h) :
    Calls Tryz.prog 35 #[v] w fun e w' => e = .returned (.string (R.str (R.plain hs))) ∧ w.grownBy w' none := by
  obtain ⟨css, hrow, hall⟩ := hH
  obtain ⟨ha, hc, rfl⟩ := len_row hrow
  have HRow : Hid _ := hrow
  have HAll : Hid _ := hall
  have HSm : Hid _ := hsm
  clear hrow hall hsm
  go_enter Tryz.func35, Tryz.ntmps35
  go_wp2
  go_loopw [3, 4] (fun sv iv wr => ∃ k : Nat, k ≤ hs.length ∧ iv = .int .i64 k ∧ sv = .string (R.str (((hs.take k).map R.hostLines).flatten)) ∧ (R.str (((hs.take k).map R.hostLines).flatten)).size ≤ 500000000000 * k ∧ Hid (w.grownBy wr none)) (fun _ iv _ => hs.length - (intOf iv).toNat)
  case atStart => exact ⟨0, Nat.zero_le _, rfl, rfl, by simp [R.str_size], grown_refl _ _⟩
  case round =>
    obtain ⟨k, hk, rfl, rfl, hsz, HR⟩ := hrel
    by_cases hlt : k < hs.length
    · obtain ⟨gm, gmc, hgm, _, _⟩ := World.ownsRow.form HRow.out (by omega)
      simp only [Value.slice.injEq] at hgm
      obtain ⟨rfl, _, rfl⟩ := hgm
      obtain ⟨vR, hvR, hRR⟩ := hosts_rules HAll.out k hlt
      obtain ⟨csr, hrr, har⟩ := hRR
      obtain ⟨ra, rc, rfl⟩ := len_row hrr
      have H0 : Hid (w.cell? ⟨gm, k * 2, none⟩ = some (.string (R.str hs[k].name))) := by
        show _ = _
        rw [World.ownsRow.cellAt HRow.out (k * 2) (by omega), hosts_name HAll.out k hlt]
      have H1 : Hid (w.cell? ⟨gm, k * 2 + 1, none⟩ = some (.slice ra hs[k].rules.length rc)) := by
        show _ = _
        rw [World.ownsRow.cellAt HRow.out (k * 2 + 1) (by omega), hvR]
      have HRr : Hid _ := hrr
      have HAr : Hid _ := har
      have HF : Hid _ := flat_snoc R.hostLines hs k hlt
      have HSk := HSm.out hs[k] (List.getElem_mem hlt)
      have HLn : Hid (R.hostLines hs[k] = [104, 111, 115, 116, 32] ++ R.q hs[k].name ++ [32, 123, 10] ++ (hs[k].rules.map R.lines).flatten ++ [125, 10]) := rfl
      clear hvR hrr har
      generalize hs[k] = hh at *
      have hn1 : Hid (hh.name.length ≤ 100000) := by have := HSk.name; show _ ≤ _; omega
      have zn : (R.str (R.q hh.name)).size ≤ 3002 := by rw [R.str_size, R.q_len]; have := HSk.name; omega
      have hrl := HSk.rules.1
      have HSr : Hid _ := HSk.rules.2
      clear HSk
      have e0 := HR.out.cell H0.out (by simp)
      have e1 := HR.out.cell H1.out (by simp)
      generalize hacc : ((hs.take k).map R.hostLines).flatten = acc at *
      have HAcc : Hid _ := hacc
      clear hacc
      go_wp2_with fail
      refine (ref_quoteS hh.name _ hn1.out).mono ?_
      rintro e wX ⟨rfl, hwX⟩
      rw [hwX]
      clear hwX wX
      go_wp2_with fail
      have E1 : Hid (R.str acc ++ ⟨#[104, 111, 115, 116, 32]⟩ ++ R.str (R.q hh.name) ++ ⟨#[32, 123, 10]⟩ = R.str (acc ++ [104, 111, 115, 116, 32] ++ R.q hh.name ++ [32, 123, 10])) := by
        show _ = _; apply str_ext; rw [app_data, app_data, app_data, R.str_toList, R.str_toList, R.str_toList]
      rw [E1.out]
      have hzp : (R.str (acc ++ [104, 111, 115, 116, 32] ++ R.q hh.name ++ [32, 123, 10])).size ≤ 500000000000 * k + 4000 := by
        rw [R.str_size] at hsz zn ⊢; simp only [List.length_append, List.length_cons, List.length_nil]; omega
      generalize hpre : acc ++ [104, 111, 115, 116, 32] ++ R.q hh.name ++ [32, 123, 10] = pre at *
      have HPre : Hid _ := hpre
      clear hpre E1
      obtain ⟨wo, hwo⟩ : ∃ x, x = wr := ⟨wr, rfl⟩
      subst hwo
      go_loopw [3, 5] (fun sv iv wz => ∃ j : Nat, j ≤ hh.rules.length ∧ iv = .int .i64 j ∧ sv = .string (R.str (pre ++ ((hh.rules.take j).map R.lines).flatten)) ∧ (R.str (pre ++ ((hh.rules.take j).map R.lines).flatten)).size ≤ 500000000000 * k + 4000 + 110000000 * j ∧ Hid (w.grownBy wz none)) (fun _ iv _ => hh.rules.length - (intOf iv).toNat)
      case atStart => exact ⟨0, Nat.zero_le _, rfl, by simp, by simpa using hzp, HR⟩
      case round =>
        obtain ⟨j, hj, rfl, rfl, hsz2, HR2⟩ := hrel
        have f1 : wr.cell? ⟨gm, k * 2 + 1, none⟩ = some (.slice ra hh.rules.length rc) := HR2.out.cell H1.out (by simp)
        by_cases hjl : j < hh.rules.length
        · obtain ⟨gr, grc, hgr, _, _⟩ := World.ownsRow.form HRr.out (by omega)
          simp only [Value.slice.injEq] at hgr
          obtain ⟨rfl, _, rfl⟩ := hgr
          obtain ⟨cs, hrv, hcl⟩ := rules_cellO HAr.out j hjl
          have HRV : Hid (RuleVal wr cs hh.rules[j]) := hrv.keep HR2.out (safe_none _ _)
          have HF2 : Hid _ := flat_snoc R.lines hh.rules j hjl
          have HSj : Hid _ := HSr.out hh.rules[j] (List.getElem_mem hjl)
          have hll := R.lines_len _ HSj.out
          generalize hh.rules[j] = rl at *
          obtain ⟨vM, vT, vS, vD, rfl, hM, hT, hS, hD⟩ := hrv
          obtain ⟨m1, m2, rfl⟩ := len_row hM
          obtain ⟨t1, t2, rfl⟩ := len_row hT
          obtain ⟨x1, x2, rfl⟩ := len_row hS
          obtain ⟨d1, d2, rfl⟩ := len_row hD
          clear hM hT hS hD
          have g0 : wr.cell? ⟨gr, j * 8, none⟩ = some (.int .i64 rl.number) := by
            refine HR2.out.cell (a := ⟨gr, j * 8, none⟩) ?_ (by simp)
            rw [World.ownsRow.cellAt HRr.out (j * 8) (by omega)]; exact hcl 0 (by omega)
          have g1 : wr.cell? ⟨gr, j * 8 + 1, none⟩ = some (.string (R.str rl.path)) := by
            refine HR2.out.cell (a := ⟨gr, j * 8 + 1, none⟩) ?_ (by simp)
            rw [World.ownsRow.cellAt HRr.out (j * 8 + 1) (by omega)]; exact hcl 1 (by omega)
          have g2 : wr.cell? ⟨gr, j * 8 + 2, none⟩ = some (.slice m1 rl.ms.length m2) := by
            refine HR2.out.cell (a := ⟨gr, j * 8 + 2, none⟩) ?_ (by simp)
            rw [World.ownsRow.cellAt HRr.out (j * 8 + 2) (by omega)]; exact hcl 2 (by omega)
          have g3 : wr.cell? ⟨gr, j * 8 + 3, none⟩ = some (.slice t1 rl.tg.length t2) := by
            refine HR2.out.cell (a := ⟨gr, j * 8 + 3, none⟩) ?_ (by simp)
            rw [World.ownsRow.cellAt HRr.out (j * 8 + 3) (by omega)]; exact hcl 3 (by omega)
          have g4 : wr.cell? ⟨gr, j * 8 + 4, none⟩ = some (.bool rl.change) := by
            refine HR2.out.cell (a := ⟨gr, j * 8 + 4, none⟩) ?_ (by simp)
            rw [World.ownsRow.cellAt HRr.out (j * 8 + 4) (by omega)]; exact hcl 4 (by omega)
          have g5 : wr.cell? ⟨gr, j * 8 + 5, none⟩ = some (.string (R.str rl.to)) := by
            refine HR2.out.cell (a := ⟨gr, j * 8 + 5, none⟩) ?_ (by simp)
            rw [World.ownsRow.cellAt HRr.out (j * 8 + 5) (by omega)]; exact hcl 5 (by omega)
          have g6 : wr.cell? ⟨gr, j * 8 + 6, none⟩ = some (.slice x1 rl.sets.length x2) := by
            refine HR2.out.cell (a := ⟨gr, j * 8 + 6, none⟩) ?_ (by simp)
            rw [World.ownsRow.cellAt HRr.out (j * 8 + 6) (by omega)]; exact hcl 6 (by omega)
          have g7 : wr.cell? ⟨gr, j * 8 + 7, none⟩ = some (.slice d1 rl.drops.length d2) := by
            refine HR2.out.cell (a := ⟨gr, j * 8 + 7, none⟩) ?_ (by simp)
            rw [World.ownsRow.cellAt HRr.out (j * 8 + 7) (by omega)]; exact hcl 7 (by omega)
          clear hcl
          have HSz : Hid ((R.str (pre ++ ((hh.rules.take (j + 1)).map R.lines).flatten)).size ≤ 500000000000 * k + 4000 + 110000000 * (j + 1)) := by
            show _ ≤ _
            rw [R.str_size] at hsz2
            rw [R.str_size, HF2.out, ← List.append_assoc, List.length_append]; omega
          have Hend : Hid (Value.string (R.str (pre ++ ((hh.rules.take j).map R.lines).flatten) ++ R.str (R.lines rl)) = .string (R.str (pre ++ ((hh.rules.take (j + 1)).map R.lines).flatten))) := by
            show _ = _
            rw [R.str_append, HF2.out, List.append_assoc]
          have zl : (R.str (R.lines rl)).size ≤ 110000000 := by rw [R.str_size]; exact hll
          clear hll
          generalize pre ++ ((hh.rules.take j).map R.lines).flatten = ac2 at *
          go_wp2_with fail
          refine (ref_Lines _ rl HRV.out HSj.out).mono ?_
          rintro e wL ⟨rfl, hgL⟩
          have HGL : Hid _ := grown_trans HR2.out hgL
          clear hgL
          go_wp2
          exact ⟨⟨j + 1, by omega, by go_num, Hend.out, HSz.out, HGL⟩, by simp [intOf]; omega⟩
        · have hje : j = hh.rules.length := by omega
          subst hje
          rw [List.take_of_length_le (Nat.le_refl _)] at hsz2 ⊢
          have HSz : Hid ((R.str (((hs.take (k + 1)).map R.hostLines).flatten)).size ≤ 500000000000 * (k + 1)) := by
            show _ ≤ _
            rw [R.str_size] at hsz2 hsz zn
            rw [R.str_size, HF.out, HLn.out]
            rw [← HPre.out] at hsz2
            simp only [List.length_append, List.length_cons, List.length_nil] at hsz2 ⊢
            omega
          have Hend : Hid (Value.string (R.str (pre ++ (hh.rules.map R.lines).flatten) ++ ⟨#[125, 10]⟩) = .string (R.str (((hs.take (k + 1)).map R.hostLines).flatten))) := by
            show _ = _
            rw [HF.out, HLn.out, ← HPre.out]
            congr 1
            apply str_ext; rw [app_data, R.str_toList, R.str_toList]; simp
          go_wp2
          exact ⟨⟨k + 1, by omega, by go_num, Hend.out, HSz.out, HR2⟩, by simp [intOf]; omega⟩
    · go_wp2
      go_ret
      rw [List.take_of_length_le (by omega)]
      exact ⟨rfl, HR.out⟩

end Go.Proofs.YtfocdefchbnkpaaGreatDoor
