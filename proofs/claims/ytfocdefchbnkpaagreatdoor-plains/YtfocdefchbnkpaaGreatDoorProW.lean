/- inOrder: hosts in the order of their names, rules in the order of their numbers. -/
import Derived.Test.YtfocdefchbnkpaaGreatDoorProV
namespace Go.Proofs.YtfocdefchbnkpaaGreatDoor
open Go.RowKit

set_option maxHeartbeats 2000000 in
theorem pro_ins_nilH (w : World) : Calls Tryz.prog 276 #[.slice none 0 0, .int .i64 0, .int .i64 0, .func (.func 151) #[] #[]] w fun e w' => e = .returned (.tuple #[]) ∧ w' = w := by
  go_enter Tryz.func276, Tryz.ntmps276
  go_wp2
  refine wp_loop_rounds 1 ?_
  rw [rounds_succ]
  go_wp2
  go_end0
  exact ⟨rfl, rfl⟩
set_option maxHeartbeats 4000000 in
set_option maxRecDepth 100000 in
theorem pro_pdq_nilH (l : Int) (w : World) : Calls Tryz.prog 209 #[.slice none 0 0, .int .i64 0, .int .i64 0, .int .i64 l, .func (.func 151) #[] #[]] w fun e w' => e = .returned (.tuple #[]) ∧ w' = w := by
  have hi := pro_ins_nilH w
  go_enter Tryz.func209, Tryz.ntmps209
  go_wp2
  refine wp_loop_rounds 1 ?_
  rw [rounds_succ]
  go_wp2_with (go_at_call 276; refine hi.mono ?_; rintro e w' ⟨rfl, rfl⟩)
  (try simp only [Exit.inBlock, Exit.then]); refine bodyPost_ret (results_none rfl _ _ _) rfl ?_
  exact ⟨rfl, rfl⟩
set_option maxHeartbeats 2000000 in
theorem pro_sort_nilH (w : World) : Calls Tryz.prog 150 #[.slice none 0 0, .func (.func 151) #[] #[]] w fun e w' => e = .returned (.tuple #[]) ∧ w' = w := by
  have hp := fun l => pro_pdq_nilH l w
  have hl := Tryz.hlen 0 w (by omega)
  go_enter Tryz.func150, Tryz.ntmps150
  go_wp2_with (first | (go_at_call 210; refine hl.mono ?_; rintro e w' ⟨⟨l, rfl⟩, rfl⟩) | (go_at_call 209; refine (hp _).mono ?_; rintro e w' ⟨rfl, rfl⟩))
  go_end0
  exact ⟨rfl, rfl⟩
set_option maxHeartbeats 2000000 in
theorem pro_ins_nilR (w : World) : Calls Tryz.prog 286 #[.slice none 0 0, .int .i64 0, .int .i64 0, .func (.func 154) #[] #[]] w fun e w' => e = .returned (.tuple #[]) ∧ w' = w := by
  go_enter Tryz.func286, Tryz.ntmps286
  go_wp2
  refine wp_loop_rounds 1 ?_
  rw [rounds_succ]
  go_wp2
  go_end0
  exact ⟨rfl, rfl⟩
set_option maxHeartbeats 4000000 in
set_option maxRecDepth 100000 in
theorem pro_pdq_nilR (l : Int) (w : World) : Calls Tryz.prog 212 #[.slice none 0 0, .int .i64 0, .int .i64 0, .int .i64 l, .func (.func 154) #[] #[]] w fun e w' => e = .returned (.tuple #[]) ∧ w' = w := by
  have hi := pro_ins_nilR w
  go_enter Tryz.func212, Tryz.ntmps212
  go_wp2
  refine wp_loop_rounds 1 ?_
  rw [rounds_succ]
  go_wp2_with (go_at_call 286; refine hi.mono ?_; rintro e w' ⟨rfl, rfl⟩)
  (try simp only [Exit.inBlock, Exit.then]); refine bodyPost_ret (results_none rfl _ _ _) rfl ?_
  exact ⟨rfl, rfl⟩
set_option maxHeartbeats 2000000 in
theorem pro_sort_nilR (w : World) : Calls Tryz.prog 153 #[.slice none 0 0, .func (.func 154) #[] #[]] w fun e w' => e = .returned (.tuple #[]) ∧ w' = w := by
  have hp := fun l => pro_pdq_nilR l w
  have hl := Tryz.hlen 0 w (by omega)
  go_enter Tryz.func153, Tryz.ntmps153
  go_wp2_with (first | (go_at_call 210; refine hl.mono ?_; rintro e w' ⟨⟨l, rfl⟩, rfl⟩) | (go_at_call 212; refine (hp _).mono ?_; rintro e w' ⟨rfl, rfl⟩))
  go_end0
  exact ⟨rfl, rfl⟩

/-- All blocks below B, and all but those of these types, are as they were. -/
structure Kept (B : Nat) (l : List TypeId) (w w' : World) : Prop where
  os : w'.os = w.os
  tape : w'.tape = w.tape
  output : w'.output = w.output
  size : w.heap.size ≤ w'.heap.size
  block : ∀ k, k < w.heap.size → (k < B ∨ ∀ c t f, w.heap[k]? = some (.cells c t f) → t ∉ l) → w'.heap[k]? = w.heap[k]?
theorem Kept.refl (B : Nat) (l : List TypeId) (w : World) : Kept B l w w := ⟨rfl, rfl, rfl, Nat.le_refl _, fun _ _ _ => rfl⟩
theorem Kept.trans {B : Nat} {l : List TypeId} {a b c : World} (h : Kept B l a b) (h2 : Kept B l b c) : Kept B l a c :=
  ⟨h2.os.trans h.os, h2.tape.trans h.tape, h2.output.trans h.output, Nat.le_trans h.size h2.size, fun k hk ht => by
    have e := h.block k hk ht
    rw [h2.block k (Nat.lt_of_lt_of_le hk h.size) (ht.imp id fun ht c t f hb => ht c t f (by rw [← e]; exact hb)), e]⟩
theorem Kept.floor {B B' : Nat} {l : List TypeId} {a b : World} (h : Kept B l a b) (hB : B' ≤ B) : Kept B' l a b := ⟨h.os, h.tape, h.output, h.size, fun k hk ht => h.block k hk (ht.imp (fun h => Nat.lt_of_lt_of_le h hB) id)⟩
theorem Kept.grown {B : Nat} {l : List TypeId} {a b : World} (h : Kept B l a b) (hB : a.heap.size ≤ B) : a.grownBy b none := ⟨h.os, h.tape, h.output, h.size, fun k hk _ => h.block k hk (Or.inl (Nat.lt_of_lt_of_le hk hB))⟩
theorem kept_none {B : Nat} {l : List TypeId} {a b : World} (h : a.grownBy b none) : Kept B l a b := ⟨h.os, h.tape, h.output, h.size, fun k hk _ => h.block k hk (by simp)⟩
theorem kept_some {B : Nat} {l : List TypeId} {a b : World} {g : Nat} {c : Array Value} {t : TypeId} {f : Nat × Nat} (h : a.grownBy b (some g)) (hb : a.heap[g]? = some (.cells c t f)) (ht : t ∈ l) (hB : B ≤ g) : Kept B l a b :=
  ⟨h.os, h.tape, h.output, h.size, fun k hk hn => h.block k hk (fun e => by
    cases e
    rcases hn with hn | hn
    · omega
    · exact hn c t f hb ht)⟩
theorem kept_row {l : List TypeId} {a b : World} {B g n cap : Nat} {e : TypeId} {s : Nat} {xs : List Value} (h : a.grownBy b (some g)) (hr : a.ownsRow B e s (.slice (some ⟨g, 0, none⟩) n cap) n xs) (ht : e ∈ l) : Kept B l a b := by
  obtain ⟨c, hb⟩ := row_kind hr g rfl
  exact kept_some h hb ht (World.ownsRow.lt hr g rfl).1

theorem all2_of_mem {α β : Type} {Q : List Value → β → Prop} (enc : β × α → List Value) (d : List (β × α)) (h : ∀ x ∈ d, Q (enc x) x.1) : All2 Q (d.map enc) (d.map Prod.fst) := by
  induction d with
  | nil => exact .nil
  | cons x d ih => exact .cons (h x (by simp)) (ih fun y hy => h y (by simp [hy]))
theorem all2_of_get {α β : Type} {Q : List Value → β → Prop} (enc : α → List Value) (d : List α) (m : List β) (hl : m.length = d.length) (h : ∀ j (h1 : j < d.length) (h2 : j < m.length), Q (enc d[j]) m[j]) : All2 Q (d.map enc) m := by
  induction d generalizing m with
  | nil => rw [List.length_eq_zero_iff.1 hl]; exact .nil
  | cons x d ih =>
    match m, hl with
    | y :: m, hl =>
      exact .cons (h 0 (by simp) (by simp)) (ih m (by simpa using hl) fun j h1 h2 => h (j + 1) (by simpa using h1) (by simpa using h2))
theorem hosts_enc {w : World} {css : List (List Value)} {hs : List P.Hst} (h : All2 (PHostVal w) css hs) : ∃ d : List (P.Hst × Sl3), d.map encH = css ∧ d.map Prod.fst = hs ∧ ∀ x ∈ d, PHostVal w (encH x) x.1 := by
  induction h with
  | nil => exact ⟨[], rfl, rfl, fun x hx => by simp at hx⟩
  | @cons c r cs rs hc _ ih =>
    obtain ⟨d, h1, h2, h3⟩ := ih
    obtain ⟨vR, rfl, hr⟩ := hc
    obtain ⟨css, hr1, _⟩ := id hr
    obtain ⟨a, n, rfl⟩ := len_row hr1
    refine ⟨(r, a, r.rules.length, n) :: d, by rw [List.map_cons, h1]; rfl, by rw [List.map_cons, h2], fun x hx => ?_⟩
    rcases List.mem_cons.1 hx with rfl | hx
    · exact ⟨_, rfl, hr⟩
    · exact h3 x hx
theorem rules_enc {w : World} {css : List (List Value)} {rs : List P.Rl} (h : All2 (PRuleVal w) css rs) : ∃ d : List (P.Rl × Sl3 × Sl3 × Sl3 × Sl3), d.map encR = css ∧ d.map Prod.fst = rs ∧ ∀ x ∈ d, PRuleVal w (encR x) x.1 := by
  induction h with
  | nil => exact ⟨[], rfl, rfl, fun x hx => by simp at hx⟩
  | @cons c r cs rs hc _ ih =>
    obtain ⟨d, h1, h2, h3⟩ := ih
    obtain ⟨vM, vT, vS, vD, rfl, q1, q2, q3, q4⟩ := hc
    obtain ⟨a1, c1, rfl⟩ := len_row q1
    obtain ⟨a2, c2, rfl⟩ := len_row q2
    obtain ⟨a3, c3, rfl⟩ := len_row q3
    obtain ⟨a4, c4, rfl⟩ := len_row q4
    refine ⟨(r, (a1, r.ms.length, c1), (a2, r.tg.length, c2), (a3, r.sets.length, c3), (a4, r.drops.length, c4)) :: d, by rw [List.map_cons, h1]; rfl, by rw [List.map_cons, h2], fun x hx => ?_⟩
    rcases List.mem_cons.1 hx with rfl | hx
    · exact ⟨_, _, _, _, rfl, q1, q2, q3, q4⟩
    · exact h3 x hx
theorem PHostVal.away {w w' : World} {cs : List Value} {h : P.Hst} {row : Option Nat} (hv : PHostVal w cs h) (hg : w.grownBy w' row) (hs : Safe w row pleaves) (hk : ∀ k, rblk cs = some k → row ≠ some k) : PHostVal w' cs h := by
  obtain ⟨vR, rfl, css, h1, h2⟩ := hv
  exact ⟨vR, rfl, css, own_away h1 hg (fun k hb => hk k hb), h2.map fun a b hab => hab.keep hg hs⟩

/-- The rules of a host in the order of their numbers. -/
def SrtR (a b : P.Hst) : Prop := b.name = a.name ∧ b.rules.Perm a.rules ∧ b.rules.Pairwise (fun x y => Go.Sort.ltInt y.number x.number = false)
/-- Hosts in the order of their names, and the rules of each. -/
def SrtH (hs hs' : List P.Hst) : Prop := ∃ p : List P.Hst, p.Perm hs ∧ p.Pairwise (fun x y => Go.Sort.ltStr y.name x.name = false) ∧ hs'.length = p.length ∧ ∀ j (h1 : j < p.length) (h2 : j < hs'.length), SrtR p[j] hs'[j]

/-- slices.SortFunc at the rules of a host, whatever they are. -/
theorem pro_sortRules {w : World} {v : Value} (B : Nat) (rs : List P.Rl) (h : PRulesRow w 0 v rs) (hn : rs.length ≤ 12) (hfl : ∀ k, v.ownBlock = some k → B ≤ k) :
    Calls Tryz.prog 153 #[v, .func (.func 154) #[] #[]] w fun e w' => e = .returned (.tuple #[]) ∧ w.grownBy w' v.ownBlock ∧ Safe w v.ownBlock pleaves ∧ Safe w v.ownBlock [146] ∧ Kept B [146, 213] w w' ∧ ∃ rs', PRulesRow w' 0 v rs' ∧ rs'.Perm rs ∧ rs'.Pairwise (fun x y => Go.Sort.ltInt y.number x.number = false) := by
  obtain ⟨css, h1, h2⟩ := h
  obtain ⟨d, rfl, rfl, h3⟩ := rules_enc h2
  rw [List.length_map] at h1 hn
  rcases h1.2 with ⟨rfl, h0⟩ | ⟨g, cap, cur, rfl, hB, hb, _⟩
  · refine (pro_sort_nilR w).mono ?_
    rintro e w' ⟨rfl, rfl⟩
    have : d = [] := List.length_eq_zero_iff.1 h0
    subst this
    exact ⟨rfl, grown_refl _ _, safe_none _ _, safe_none _ _, Kept.refl _ _ _, [], ⟨[], World.ownsRow_nil _ _ _ _, .nil⟩, List.Perm.refl _, .nil⟩
  · have sf : Safe w (some g) pleaves := safe_box hb (by decide)
    refine (pro_sortR d h1 hn).mono ?_
    rintro e w' ⟨rfl, d', hp, hs, hg, ho⟩
    refine ⟨rfl, hg, sf, safe_box hb (by decide), kept_some hg hb (by decide) (hfl g rfl), d'.map Prod.fst, ⟨d'.map encR, ?_, ?_⟩, hp.map _, ?_⟩
    · rw [List.length_map, hp.length_eq]; exact ho
    · exact all2_of_mem encR d' fun x hx => (h3 x (hp.mem_iff.1 hx)).keep hg sf
    · rw [List.pairwise_map]; exact hs
theorem pro_sortHosts {w : World} {B : Nat} {v : Value} (hs : List P.Hst) (h : PHosts w B v hs) (hn : hs.length ≤ 12) :
    Calls Tryz.prog 150 #[v, .func (.func 151) #[] #[]] w fun e w' => e = .returned (.tuple #[]) ∧ Kept B [146, 213] w w' ∧ ∃ d' : List (P.Hst × Sl3), w'.ownsRow B 146 2 v d'.length (d'.map encH).flatten ∧ (∀ x ∈ d', PHostVal w' (encH x) x.1) ∧ (d'.map encH).Pairwise (fun a b => ∀ k, rblk a = some k → rblk b ≠ some k) ∧ (∀ x ∈ d', ∀ k, rblk (encH x) = some k → B ≤ k) ∧ (d'.map Prod.fst).Perm hs ∧ (d'.map Prod.fst).Pairwise (fun x y => Go.Sort.ltStr y.name x.name = false) := by
  obtain ⟨css, h1, h2, hap, hfl⟩ := h
  obtain ⟨d, rfl, rfl, h3⟩ := hosts_enc h2
  rw [List.length_map] at h1 hn
  rcases h1.2 with ⟨rfl, h0⟩ | ⟨g, cap, cur, rfl, hB, hb, _⟩
  · refine (pro_sort_nilH w).mono ?_
    rintro e w' ⟨rfl, rfl⟩
    have : d = [] := List.length_eq_zero_iff.1 h0
    subst this
    exact ⟨rfl, Kept.refl _ _ _, [], World.ownsRow_nil _ _ _ _, fun x hx => by simp at hx, .nil, fun x hx => by simp at hx, List.Perm.refl _, .nil⟩
  · have sf : Safe w (some g) prtags := safe_box hb (by decide)
    refine (pro_sortH d h1 hn).mono ?_
    rintro e w' ⟨rfl, d', hp, hs, hg, ho⟩
    refine ⟨rfl, kept_row hg h1 (by decide), d', by rw [hp.length_eq]; exact ho, fun x hx => (h3 x (hp.mem_iff.1 hx)).keep hg sf, ?_, fun x hx => hfl _ (List.mem_map_of_mem (hp.mem_iff.1 hx)), hp.map _, ?_⟩
    · exact (hp.map encH).symm.pairwise hap (fun {a b} hab k hb ha => hab k ha hb)
    · rw [List.pairwise_map]; exact hs

set_option maxHeartbeats 4000000 in
set_option maxRecDepth 100000 in
theorem pro_inOrder {w : World} {B : Nat} {v : Value} (hs : List P.Hst) (h : PHosts w B v hs) (hn : hs.length ≤ 12) (hr : ∀ h ∈ hs, h.rules.length ≤ 12) :
    Calls Tryz.prog 103 #[v] w fun e w' => e = .returned (.agg #[v]) ∧ Kept B [146, 213] w w' ∧ ∃ hs', PHostsRow w' B v hs' ∧ SrtH hs hs' := by
  have HP : Hid (PHosts (w.alloc (.cells #[.slice none 0 0] 88)) B v hs) := h.keep (World.grownBy_alloc _ _ none) (safe_none _ _)
  obtain ⟨va, vc, rfl⟩ := h.len
  have HBx : Hid ((w.alloc (.cells #[.slice none 0 0] 88)).heap[w.heap.size]? = some (.cells #[.slice none 0 0] 88)) := heap_alloc_new _ _
  have HK0 : Hid (Kept B [146, 213] w (w.alloc (.cells #[.slice none 0 0] 88))) := kept_none (World.grownBy_alloc _ _ none)
  clear h
  go_enter Tryz.func103, Tryz.ntmps103
  go_wp2_with (go_at_call 150; refine (pro_sortHosts hs HP.out hn).mono ?_; rintro e w1 ⟨rfl, hk1, d', ho, hv, hap, hfl, hpm, hpw⟩)
  have HK1 : Hid _ := HK0.out.trans hk1
  have HBx1 : Hid (w1.heap[w.heap.size]? = some (.cells #[.slice none 0 0] 88)) := by
    show w1.heap[w.heap.size]? = _
    rw [hk1.block w.heap.size (block_lt HBx.out) (Or.inr fun c t f hb => by rw [HBx.out] at hb; cases hb; decide)]; exact HBx.out
  have hdl : d'.length = hs.length := by have := hpm.length_eq; simpa using this
  have HO1 : Hid (w1.ownsRow B 146 2 (.slice va hs.length vc) hs.length (d'.map encH).flatten) := by have h := ho; rw [hdl] at h; exact h
  have HV1 : Hid _ := hv
  have HAp : Hid _ := hap
  have HFl : Hid (∀ x ∈ d', ∀ k, rblk (encH x) = some k → B ≤ k) := hfl
  have HPm : Hid _ := hpm
  have HPw : Hid _ := hpw
  have HRl : Hid (∀ x ∈ d', x.1.rules.length ≤ 12) := fun x hx => hr x.1 (hpm.mem_iff.1 (List.mem_map_of_mem hx))
  clear hk1 ho hv hap hfl hpm hpw hr HP HBx HK0
  go_wp2
  go_loopw [9] (fun iv wr => ∃ (i : Nat) (hq : List P.Hst), i ≤ hs.length ∧ iv = .int .i64 i ∧ hq.length = d'.length ∧ Hid (wr.ownsRow B 146 2 (.slice va hs.length vc) hs.length (d'.map encH).flatten) ∧ Hid (∀ j (h1 : j < d'.length) (h2 : j < hq.length), PHostVal wr (encH d'[j]) hq[j]) ∧ Hid (∀ j (h1 : j < d'.length) (h2 : j < hq.length), j < i → SrtR d'[j].1 hq[j]) ∧ Hid (∀ j (h1 : j < d'.length) (h2 : j < hq.length), i ≤ j → hq[j] = d'[j].1) ∧ Hid (Kept B [146, 213] w wr) ∧ Hid (wr.heap[w.heap.size]? = some (.cells #[.slice none 0 0] 88))) (fun iv _ => hs.length - (intOf iv).toNat)
  case atStart => exact ⟨0, d'.map Prod.fst, Nat.zero_le _, rfl, by simp, HO1, fun j h1 h2 => by rw [List.getElem_map]; exact HV1.out _ (List.getElem_mem _), fun j _ _ hj => absurd hj (by omega), fun j h1 h2 _ => by rw [List.getElem_map], HK1, HBx1⟩
  case round =>
    obtain ⟨i, hq, hil, rfl, hql, HO, HV, HS, HD, HK, HB⟩ := hrel
    by_cases hlt : i < hs.length
    · have hid : i < d'.length := by omega
      have hiq : i < hq.length := by omega
      have hiI : (i : Int) < hs.length := by omega
      obtain ⟨g, gc, hgv, _, hgl⟩ := World.ownsRow.form HO.out (by omega)
      simp only [Value.slice.injEq] at hgv
      obtain ⟨rfl, _, rfl⟩ := hgv
      have hvi := HV.out i hid hiq
      have hqi := HD.out i hid hiq (Nat.le_refl _)
      have hri := HRl.out d'[i] (List.getElem_mem hid)
      rw [hqi] at hvi
      have e0 : wr.cell? ⟨g, i * 2, none⟩ = some (.string (R.str d'[i].1.name)) := by
        rw [World.ownsRow.cellAt HO.out (i * 2) (by omega), flatK_get encH 2 (fun _ => rfl) d' (i * 2) (by omega), Nat.mul_div_cancel _ (by decide), getElem!_pos d' i hid, Nat.mul_mod_left]; rfl
      have e1 : wr.cell? ⟨g, i * 2 + 1, none⟩ = some (.slice d'[i].2.1 d'[i].2.2.1 d'[i].2.2.2) := by
        rw [World.ownsRow.cellAt HO.out (i * 2 + 1) (by omega), flatK_get encH 2 (fun _ => rfl) d' (i * 2 + 1) (by omega), show (i * 2 + 1) / 2 = i by omega, getElem!_pos d' i hid, show (i * 2 + 1) % 2 = 1 by omega]; rfl
      obtain ⟨vR, hvR, hrow⟩ := hvi
      have hvR' : vR = .slice d'[i].2.1 d'[i].2.2.1 d'[i].2.2.2 := by
        have h1 := congrArg (fun l => l[1]?) hvR
        simp [encH] at h1
        exact h1.symm
      subst hvR'
      have hgA := World.grownBy_alloc wr (.cells #[.string (R.str d'[i].1.name), .slice d'[i].2.1 d'[i].2.2.1 d'[i].2.2.2] 146) none
      have HCn : Hid (Calls Tryz.prog 153 #[.slice d'[i].2.1 d'[i].2.2.1 d'[i].2.2.2, .func (.func 154) #[] #[]] (wr.alloc (.cells #[.string (R.str d'[i].1.name), .slice d'[i].2.1 d'[i].2.2.1 d'[i].2.2.2] 146)) fun e w' => e = .returned (.tuple #[]) ∧ ∃ hq' : List P.Hst, hq'.length = d'.length ∧ (w'.ownsRow B 146 2 (.slice (some ⟨g, 0, none⟩) hs.length vc) hs.length (d'.map encH).flatten) ∧ (∀ j (h1 : j < d'.length) (h2 : j < hq'.length), PHostVal w' (encH d'[j]) hq'[j]) ∧ (∀ j (h1 : j < d'.length) (h2 : j < hq'.length), j < i + 1 → SrtR d'[j].1 hq'[j]) ∧ (∀ j (h1 : j < d'.length) (h2 : j < hq'.length), i + 1 ≤ j → hq'[j] = d'[j].1) ∧ (Kept B [146, 213] w w') ∧ (w'.heap[w.heap.size]? = some (.cells #[.slice none 0 0] 88))) := by
        refine (pro_sortRules B d'[i].1.rules (hrow.keep hgA (safe_none _ _)) hri (fun k hk => HFl.out d'[i] (List.getElem_mem hid) k hk)).mono ?_
        rintro e w2 ⟨rfl, hg2, sf1, sf2, hk2, rs', hr1, hr2, hr3⟩
        refine ⟨rfl, hq.set i ⟨d'[i].1.name, rs'⟩, by simpa using hql, own_safe (own_away HO.out hgA (fun k hk c => by cases c)) hg2 sf2 (by decide), ?_, ?_, ?_, (HK.out.trans (kept_none hgA)).trans hk2, ?_⟩
        · intro j h1 h2
          rw [List.getElem_set]
          by_cases hji : i = j
          · subst hji
            rw [if_pos rfl]
            exact ⟨_, rfl, hr1⟩
          · rw [if_neg hji]
            refine ((HV.out j h1 (by simpa using h2)).keep hgA (safe_none _ _)).away hg2 sf1 ?_
            intro k hk hrk
            have hpw := List.pairwise_iff_getElem.1 HAp.out
            rcases Nat.lt_or_gt_of_ne hji with hl | hl
            · have := hpw i j (by simpa using hid) (by simpa using h1) hl k
              rw [List.getElem_map, List.getElem_map] at this
              exact this hrk hk
            · have := hpw j i (by simpa using h1) (by simpa using hid) hl k
              rw [List.getElem_map, List.getElem_map] at this
              exact this hk hrk
        · intro j h1 h2 hj
          rw [List.getElem_set]
          by_cases hji : i = j
          · subst hji
            rw [if_pos rfl]
            exact ⟨rfl, hr2, hr3⟩
          · rw [if_neg hji]
            exact HS.out j h1 (by simpa using h2) (by omega)
        · intro j h1 h2 hj
          rw [List.getElem_set, if_neg (by omega)]
          exact HD.out j h1 (by simpa using h2) (by omega)
        · have hb2 : (wr.alloc (.cells #[.string (R.str d'[i].1.name), .slice d'[i].2.1 d'[i].2.2.1 d'[i].2.2.2] 146)).heap[w.heap.size]? = some (.cells #[.slice none 0 0] 88) := keep_block HB.out hgA (by simp)
          rw [hk2.block w.heap.size (block_lt hb2) (Or.inr fun c t f hb => by rw [hb2] at hb; cases hb; decide)]
          exact hb2
      clear hvR hrow hgA hqi hri
      obtain ⟨di, hdi⟩ : ∃ x, x = d'[i] := ⟨_, rfl⟩
      rw [← hdi] at e0 e1 HCn
      clear hdi
      clear HV HS HD HO HK HB
      go_wp2_with (go_at_call 153; refine HCn.out.mono ?_; rintro e w2 ⟨rfl, hq', q1, q2, q3, q4, q5, q6, q7⟩)
      go_roundw
      case rel => exact ⟨i + 1, hq', by omega, by go_num, q1, q2, q3, q4, q5, q6, q7⟩
      case measure => simp [intOf]; omega
    · have c0 : wr.cell? ⟨w.heap.size, 0, none⟩ = some (.slice none 0 0) := cell_of_block HB.out
      have f0 : wr.frozen? ⟨w.heap.size, 0, none⟩ = false := frozen_of_block HB.out
      have HE : Hid (i = hs.length) := by show i = hs.length; omega
      go_wp2
      have hg9 := grown_setCell wr w.heap.size 0 (.slice va hs.length vc)
      have sf : Safe wr (some w.heap.size) phtags := safe_box HB.out (by decide)
      refine bodyPost_ret (v := .agg #[.slice va hs.length vc]) (by simp [results, Tryz.results103, go_sem, c0]) rfl ⟨rfl, ?_, hq, ?_, d'.map Prod.fst, HPm.out, HPw.out, by simpa using hql, ?_⟩
      · refine ⟨HK.out.os, HK.out.tape, HK.out.output, Nat.le_trans HK.out.size hg9.size, fun k hk ht => ?_⟩
        rw [hg9.block k (Nat.lt_of_lt_of_le hk HK.out.size) (fun e => by cases e; omega)]
        exact HK.out.block k hk ht
      · refine ⟨d'.map encH, ?_, all2_of_get encH d' hq hql fun j h1 h2 => (HV.out j h1 h2).keep hg9 (safe_sub sf)⟩
        rw [hql, hdl]; exact own_safe HO.out hg9 sf (by decide)
      · intro j h1 h2
        rw [List.getElem_map]
        have h3 : j < d'.length := by simpa using h1
        exact HS.out j h3 h2 (by rw [HE.out, ← hdl]; exact h3)
end Go.Proofs.YtfocdefchbnkpaaGreatDoor

/- source.Read: the whole text, as the program reads it. -/
namespace Go.Proofs.YtfocdefchbnkpaaGreatDoor
open Go.RowKit

theorem Kept.new {B : Nat} {l : List TypeId} {a b c : World} {k : Nat} (h : Kept B l a b) (hk : b.grownBy c (some k)) (hn : a.heap.size ≤ k) : Kept B l a c :=
  ⟨hk.os.trans h.os, hk.tape.trans h.tape, hk.output.trans h.output, Nat.le_trans h.size hk.size, fun j hj ht => by
    rw [hk.block j (Nat.lt_of_lt_of_le hj h.size) (fun e => by cases e; omega)]
    exact h.block j hj ht⟩
theorem Kept.drew {B : Nat} {l : List TypeId} {a b : World} (h : Kept B l a b) : Kept B l a b.drew := h.trans (kept_none (grown_drew _))

set_option maxRecDepth 100000 in
set_option maxHeartbeats 1000000 in
theorem pro_look0 {w : World} {rb : Nat} {s : ByteArray} (hrd : w.heap[rb]? = some (.cells #[.string s, .int .i64 0, .int .i64 0, .string ⟨#[]⟩, .bool false, .int .i64 0, .int .i64 0] 204 (0, 0))) (hlen : s.size ≤ 1000000000000) :
    Calls Tryz.prog 100 #[.pointer (some ⟨rb, 0, none⟩), .int .i64 0] w fun e w' => e = .returned (.tuple #[]) ∧ PInv w' rb s (P.st0 s.data.toList) ∧ w.grownBy w' (some rb) := by
  have c0 : w.cell? ⟨rb, 0, none⟩ = some (.string s) := cell_of_block hrd
  have H0 : Hid _ := hrd
  have HT : Hid _ := fun w => pro_tokenFrom s 0 w hlen (Nat.zero_le _)
  have HE : Hid (P.st0 s.data.toList = ⟨P.tokenFrom s.data.toList 0, false, 0, 0⟩) := rfl
  have HTk : Hid (∃ q, q ≤ s.size ∧ P.tokenFrom s.data.toList 0 = P.tokenFrom s.data.toList q) := ⟨0, Nat.zero_le _, rfl⟩
  generalize P.tokenFrom s.data.toList 0 = t at *
  clear hrd
  go_enter Tryz.func100, Tryz.ntmps100
  go_wp2_with fail
  refine (HT.out _).mono ?_
  rintro e w1 ⟨rfl, hg⟩
  have I1 := keep_block H0.out hg (by simp)
  have c1 : w1.cell? ⟨rb, 1, none⟩ = some (.int .i64 0) := cell_of_block I1
  have c2 : w1.cell? ⟨rb, 2, none⟩ = some (.int .i64 0) := cell_of_block I1
  have c3 : w1.cell? ⟨rb, 3, none⟩ = some (.string ⟨#[]⟩) := cell_of_block I1
  have f1 : w1.frozen? ⟨rb, 1, none⟩ = false := frozen_of_block I1
  have f2 : w1.frozen? ⟨rb, 2, none⟩ = false := frozen_of_block I1
  have f3 : w1.frozen? ⟨rb, 3, none⟩ = false := frozen_of_block I1
  have J1 : Hid _ := I1
  have HG : Hid _ := hg
  clear I1 hg c0
  go_wp2
  go_end0
  have hg : w1.grownBy (((w1.setCell ⟨rb, 1, none⟩ (.int .i64 t.k)).setCell ⟨rb, 2, none⟩ (.int .i64 t.at_)).setCell ⟨rb, 3, none⟩ (.string (R.str t.raw))) (some rb) :=
    grown_trans (grown_trans (grown_setCell _ _ _ _) (grown_setCell _ _ _ _)) (grown_setCell _ _ _ _)
  refine ⟨rfl, ?_, grown_trans (grown_wide HG.out _) hg⟩
  rw [HE.out]
  exact ⟨block_setCell (block_setCell (block_setCell J1.out _) _) _, hlen, HTk.out⟩

def P.errS (p : P.St) : Int × Int := if p.broken then (2, p.tok.at_) else if p.err ≠ 0 then (p.err, p.fat) else (0, 0)

set_option maxRecDepth 100000 in
set_option maxHeartbeats 4000000 in
theorem pro_Read (s : ByteArray) (w : World) (hlen : s.size ≤ 1000000000000) (hG : Glob w)
    (hsm : (P.readS s.data.toList).2.broken = false → (P.readS s.data.toList).2.err = 0 → (P.readS s.data.toList).1.length ≤ 12 ∧ ∀ h ∈ (P.readS s.data.toList).1, h.rules.length ≤ 12) :
    Calls Tryz.prog 67 #[.string s] w fun e w' => ∃ v, e = .returned (.tuple #[.agg #[v], .int .i64 (P.errS (P.readS s.data.toList).2).1, .int .i64 (P.errS (P.readS s.data.toList).2).2]) ∧ w.grownBy w' none ∧
      ((P.readS s.data.toList).2.broken = false → (P.readS s.data.toList).2.err = 0 → ∃ hs', PHostsRow w' 0 v hs' ∧ SrtH (P.readS s.data.toList).1 hs') ∧ ∃ a n c, v = .slice a n c := by
  have HR : Hid (P.readS s.data.toList = ((P.hsLoop s.data.toList (s.data.toList.length + 1) (P.st0 s.data.toList) []).1, P.endS s.data.toList (P.hsLoop s.data.toList (s.data.toList.length + 1) (P.st0 s.data.toList) []).2)) := rfl
  have HL : Hid _ := fun w rb h => pro_look0 (w := w) (rb := rb) (s := s) h hlen
  have HH : Hid _ := fun w rb (h : PInv w rb s (P.st0 s.data.toList)) (hG : Glob w) (hrb : rb ≠ 0) => pro_hosts h hG hrb
  have HEn : Hid (∀ w rb, PInv w rb s (P.hsLoop s.data.toList (s.data.toList.length + 1) (P.st0 s.data.toList) []).2 → Calls Tryz.prog 102 #[.pointer (some ⟨rb, 0, none⟩)] w fun e w' => e = .returned (.tuple #[]) ∧ PInv w' rb s (P.endS s.data.toList (P.hsLoop s.data.toList (s.data.toList.length + 1) (P.st0 s.data.toList) []).2) ∧ w.grownBy w' (some rb)) := fun w rb h => pro_takeEnd h
  generalize P.readS s.data.toList = rd at *
  generalize P.st0 s.data.toList = st0 at *
  generalize P.hsLoop s.data.toList (s.data.toList.length + 1) st0 [] = q at *
  generalize P.endS s.data.toList q.2 = pe at *
  obtain ⟨hs, qs⟩ := q
  have HQ : Hid (rd = (hs, pe)) := HR.out
  clear HR
  have hsm2 : pe.broken = false → pe.err = 0 → hs.length ≤ 12 ∧ ∀ h ∈ hs, h.rules.length ≤ 12 := by rw [HQ.out] at hsm; exact hsm
  clear hsm
  have HGl : Hid (Glob w) := hG
  clear hG
  rw [HQ.out]
  simp only
  clear HQ
  have HSm : Hid _ := hsm2
  clear hsm2
  have hg0 : w.grownBy ((w.alloc (.cells #[.slice none 0 0] 88)).alloc (.cells #[.string s, .int .i64 0, .int .i64 0, .string ⟨#[]⟩, .bool false, .int .i64 0, .int .i64 0] 204)) none := grown_trans (World.grownBy_alloc _ _ _) (World.grownBy_alloc _ _ _)
  have HG0 : Hid _ := hg0
  have HRd0 : Hid (((w.alloc (.cells #[.slice none 0 0] 88)).alloc (.cells #[.string s, .int .i64 0, .int .i64 0, .string ⟨#[]⟩, .bool false, .int .i64 0, .int .i64 0] 204)).heap[w.heap.size + 1]? = some (.cells #[.string s, .int .i64 0, .int .i64 0, .string ⟨#[]⟩, .bool false, .int .i64 0, .int .i64 0] 204)) := by
    have := heap_alloc_new (w.alloc (.cells #[.slice none 0 0] 88)) (.cells #[.string s, .int .i64 0, .int .i64 0, .string ⟨#[]⟩, .bool false, .int .i64 0, .int .i64 0] 204)
    rw [show (w.alloc (.cells #[.slice none 0 0] 88)).heap.size = w.heap.size + 1 by simp] at this
    exact this
  have HBx0 : Hid (((w.alloc (.cells #[.slice none 0 0] 88)).alloc (.cells #[.string s, .int .i64 0, .int .i64 0, .string ⟨#[]⟩, .bool false, .int .i64 0, .int .i64 0] 204)).heap[w.heap.size]? = some (.cells #[.slice none 0 0] 88)) := keep_block (heap_alloc_new w (.cells #[.slice none 0 0] 88)) (World.grownBy_alloc _ _ none) (by simp)
  clear hg0
  go_enter Tryz.func67, Tryz.ntmps67
  go_wp2_with fail
  refine (HL.out _ _ HRd0.out).mono ?_
  rintro e w1 ⟨rfl, hI1, hg1⟩
  have HI1 : Hid _ := hI1
  have HG1 : Hid (w.grownBy w1 none) := grown_new HG0.out hg1 (by omega)
  have HZ1 : Hid (w.heap.size ≤ w1.heap.size) := HG1.out.size
  have HB1 : Hid (w1.heap[w.heap.size]? = some (.cells #[.slice none 0 0] 88)) := keep_block HBx0.out hg1 (by simp)
  have HGl1 : Hid (Glob w1) := HGl.out.keep HG1.out (by simp)
  clear hI1 hg1 HG0 HBx0 HRd0 HGl
  go_wp2_with fail
  refine (HH.out _ _ HI1.out HGl1.out (by omega)).mono ?_
  rintro e w2 ⟨v, rfl, hI2, hg2, hP2⟩
  obtain ⟨va, vc, rfl⟩ := PHosts.len hP2
  have HI2 : Hid (PInv w2 (w.heap.size + 1) s qs) := hI2
  have HP2 : Hid (PHosts w2 w1.heap.size (.slice va hs.length vc) hs) := hP2
  have HG2 : Hid (w.grownBy w2 none) := grown_new HG1.out hg2 (by omega)
  have HB2 : Hid (w2.heap[w.heap.size]? = some (.cells #[.slice none 0 0] 88)) := keep_block HB1.out hg2 (by simp)
  clear hI2 hg2 hP2 HI1 HG1 HB1 HGl1
  go_wp2_with fail
  refine (HEn.out _ _ HI2.out).mono ?_
  rintro e w3 ⟨rfl, hI3, hg3⟩
  have HI3 : Hid (PInv w3 (w.heap.size + 1) s pe) := hI3
  have HP3 : Hid (PHosts w3 w1.heap.size (.slice va hs.length vc) hs) := PHosts.keep HP2.out hg3 (HI2.out.safe (by decide))
  have HG3 : Hid (w.grownBy w3 none) := grown_new HG2.out hg3 (by omega)
  have HB3 : Hid (w3.heap[w.heap.size]? = some (.cells #[.slice none 0 0] 88)) := keep_block HB2.out hg3 (by simp)
  have c2 : w3.cell? ⟨w.heap.size + 1, 2, none⟩ = some (.int .i64 pe.tok.at_) := cell_of_block HI3.out.rd
  have c4 : w3.cell? ⟨w.heap.size + 1, 4, none⟩ = some (.bool pe.broken) := cell_of_block HI3.out.rd
  have c5 : w3.cell? ⟨w.heap.size + 1, 5, none⟩ = some (.int .i64 pe.err) := cell_of_block HI3.out.rd
  have c6 : w3.cell? ⟨w.heap.size + 1, 6, none⟩ = some (.int .i64 pe.fat) := cell_of_block HI3.out.rd
  have b0 : w3.cell? ⟨w.heap.size, 0, none⟩ = some (.slice none 0 0) := cell_of_block HB3.out
  have f0 : w3.frozen? ⟨w.heap.size, 0, none⟩ = false := frozen_of_block HB3.out
  clear hI3 hg3 HI2 HG2 HB2 HP2 HL HH HEn
  by_cases hbr : pe.broken = true
  · have HE : Hid (P.errS pe = (2, (pe.tok.at_ : Int))) := by show P.errS pe = _; unfold P.errS; rw [if_pos hbr]
    go_wp2
    go_region
    all_goals
      go_wp2
      refine bodyPost_ret (v := .tuple #[.agg #[.slice none 0 0], .int .i64 2, .int .i64 pe.tok.at_]) (by simp [results, Tryz.results67, go_sem, b0]) rfl ⟨_, by rw [HE.out], grown_trans (grown_new HG3.out (grown_setCell w3 w.heap.size 0 (.slice none 0 0)) (Nat.le_refl _)) (grown_drew _), fun h => absurd h (by rw [hbr]; decide), _, _, _, rfl⟩
  · have hbf : pe.broken = false := by simpa using hbr
    clear hbr
    by_cases her : pe.err = 0
    · have HE : Hid (P.errS pe = (0, 0)) := by show P.errS pe = _; unfold P.errS; rw [if_neg (by rw [hbf]; simp), if_neg (by simpa using her)]
      obtain ⟨hn1, hn2⟩ := HSm.out hbf her
      have he2 : (pe.err != 0) = false := by rw [her]; rfl
      have HN1 : Hid _ := hn1
      have HN2 : Hid _ := hn2
      clear HSm her hn1 hn2
      go_wp2_with fail
      refine (pro_inOrder hs HP3.out HN1.out HN2.out).mono ?_
      rintro e w4 ⟨rfl, hk4, hs', hr4, hs4⟩
      have HK4 : Hid (w.grownBy w4 none) := ((kept_none HG3.out).trans (hk4.floor HZ1.out)).grown (Nat.le_refl _)
      have HR4 : Hid (PHostsRow w4 w1.heap.size (.slice va hs.length vc) hs') := hr4
      have HS4 : Hid (SrtH hs hs') := hs4
      have HB4 : Hid (w4.heap[w.heap.size]? = some (.cells #[.slice none 0 0] 88)) := by
        show w4.heap[w.heap.size]? = _
        rw [hk4.block w.heap.size (block_lt HB3.out) (Or.inr fun c t f hb => by rw [HB3.out] at hb; cases hb; decide)]; exact HB3.out
      have b4 : w4.cell? ⟨w.heap.size, 0, none⟩ = some (.slice none 0 0) := cell_of_block HB4.out
      have f4 : w4.frozen? ⟨w.heap.size, 0, none⟩ = false := frozen_of_block HB4.out
      clear hk4 hr4 hs4 b0 f0 c2 c4 c5 c6
      go_wp2
      have hg9 := grown_setCell w4 w.heap.size 0 (.slice va hs.length vc)
      refine bodyPost_ret (v := .tuple #[.agg #[.slice va hs.length vc], .int .i64 0, .int .i64 0]) (by simp [results, Tryz.results67, go_sem, b4]) rfl ⟨_, by rw [HE.out], grown_new HK4.out hg9 (Nat.le_refl _), fun _ _ => ⟨hs', ?_, HS4.out⟩, _, _, _, rfl⟩
      obtain ⟨css, r1, r2⟩ := HR4.out
      exact PHostsRow.keep ⟨css, row_base r1 (Nat.zero_le _), r2⟩ hg9 (safe_box HB4.out (by decide))
    · have HE : Hid (P.errS pe = (pe.err, pe.fat)) := by show P.errS pe = _; unfold P.errS; rw [if_neg (by rw [hbf]; simp), if_pos her]
      have he2 : (pe.err != 0) = true := by rw [bne_iff_ne]; exact her
      have HNE : Hid (pe.err ≠ 0) := her
      clear her
      go_wp2
      go_region
      all_goals
        go_wp2
        refine bodyPost_ret (v := .tuple #[.agg #[.slice none 0 0], .int .i64 pe.err, .int .i64 pe.fat]) (by simp [results, Tryz.results67, go_sem, b0]) rfl ⟨_, by rw [HE.out], grown_trans (grown_new HG3.out (grown_setCell w3 w.heap.size 0 (.slice none 0 0)) (Nat.le_refl _)) (grown_drew _), fun _ h => absurd h HNE.out, _, _, _, rfl⟩
end Go.Proofs.YtfocdefchbnkpaaGreatDoor

/- switchyard.read: a text of any length, as the program reads it. -/
namespace Go.Proofs.YtfocdefchbnkpaaGreatDoor
open Go.RowKit

def P.errT (l : List UInt8) : Int × Int := if 3000 < l.length then (1, 0) else P.errS (P.readS l).2
theorem P.errS_zero {p : P.St} (h : (P.errS p).1 = 0) : p.broken = false ∧ p.err = 0 := by
  unfold P.errS at h
  by_cases hb : p.broken = true
  · rw [if_pos hb] at h; exact absurd h (by show ¬ (2 : Int) = 0; decide)
  · rw [if_neg hb] at h
    by_cases he : p.err ≠ 0
    · rw [if_pos he] at h; exact absurd h he
    · exact ⟨by simpa using hb, by simpa using he⟩

set_option maxRecDepth 100000 in
set_option maxHeartbeats 4000000 in
theorem pro_read (s : ByteArray) (w : World) (hlen : s.size ≤ maxLen) (hG : Glob w)
    (hsm : s.size ≤ 3000 → (P.readS s.data.toList).2.broken = false → (P.readS s.data.toList).2.err = 0 → (P.readS s.data.toList).1.length ≤ 12 ∧ ∀ h ∈ (P.readS s.data.toList).1, h.rules.length ≤ 12) :
    Calls Tryz.prog 41 #[.string s] w fun e w' => ∃ v, e = .returned (.tuple #[.agg #[v], .int .i64 (P.errT s.data.toList).1, .int .i64 (P.errT s.data.toList).2]) ∧ w.grownBy w' none ∧
      ((P.errT s.data.toList).1 = 0 → ∃ hs', PHostsRow w' 0 v hs' ∧ SrtH (P.readS s.data.toList).1 hs') ∧ ∃ a n c, v = .slice a n c := by
  unfold maxLen at hlen
  have HBx0 : Hid ((w.alloc (.cells #[.slice none 0 0] 88)).heap[w.heap.size]? = some (.cells #[.slice none 0 0] 88)) := heap_alloc_new _ _
  have HK0 : Hid (w.grownBy (w.alloc (.cells #[.slice none 0 0] 88)) none) := World.grownBy_alloc _ _ none
  by_cases hlong : 3000 < s.size
  · have HE : Hid (P.errT s.data.toList = (1, 0)) := by show P.errT _ = _; unfold P.errT; rw [if_pos (by rw [R.size_eq]; exact hlong)]
    generalize P.errT s.data.toList = er at *
    have b0 : (w.alloc (.cells #[.slice none 0 0] 88)).cell? ⟨w.heap.size, 0, none⟩ = some (.slice none 0 0) := cell_of_block HBx0.out
    clear hsm
    go_enter Tryz.func41, Tryz.ntmps41
    go_wp2
    refine bodyPost_ret (v := .tuple #[.agg #[.slice none 0 0], .int .i64 1, .int .i64 0]) (by simp [results, Tryz.results41, go_sem, b0]) rfl ⟨_, by rw [HE.out], HK0.out, fun h => absurd h (by rw [HE.out]; decide), _, _, _, rfl⟩
  · have hs3 : s.size ≤ 3000 := by omega
    have HE : Hid (P.errT s.data.toList = P.errS (P.readS s.data.toList).2) := by show P.errT _ = _; unfold P.errT; rw [if_neg (by rw [R.size_eq]; exact hlong)]
    have HRd : Hid (∀ w, Glob w → Calls Tryz.prog 67 #[.string s] w fun e w' => ∃ v, e = .returned (.tuple #[.agg #[v], .int .i64 (P.errT s.data.toList).1, .int .i64 (P.errT s.data.toList).2]) ∧ w.grownBy w' none ∧
      ((P.errT s.data.toList).1 = 0 → ∃ hs', PHostsRow w' 0 v hs' ∧ SrtH (P.readS s.data.toList).1 hs') ∧ ∃ a n c, v = .slice a n c) := fun w hG => by
        rw [HE.out]
        exact (pro_Read s w (by omega) hG (hsm hs3)).mono fun e w' ⟨v, h1, h2, h3, h4⟩ => ⟨v, h1, h2, fun h => h3 (P.errS_zero h).1 (P.errS_zero h).2, h4⟩
    generalize P.errT s.data.toList = er at *
    generalize P.readS s.data.toList = rd at *
    have HGl : Hid (Glob (w.alloc (.cells #[.slice none 0 0] 88))) := hG.keep (World.grownBy_alloc _ _ none) (by simp)
    clear hsm hG
    go_enter Tryz.func41, Tryz.ntmps41
    go_wp2_with fail
    refine (HRd.out _ HGl.out).mono ?_
    rintro e w1 ⟨v, rfl, hk1, hr1, va, vn, vc, rfl⟩
    have HK1 : Hid _ := grown_trans HK0.out hk1
    have HR1 : Hid _ := hr1
    have HB1 : Hid (w1.heap[w.heap.size]? = some (.cells #[.slice none 0 0] 88)) := keep_block HBx0.out hk1 (by simp)
    have b1 : w1.cell? ⟨w.heap.size, 0, none⟩ = some (.slice none 0 0) := cell_of_block HB1.out
    have f1 : w1.frozen? ⟨w.heap.size, 0, none⟩ = false := frozen_of_block HB1.out
    clear hk1 hr1
    go_wp2
    have hg9 := grown_setCell w1 w.heap.size 0 (.slice va vn vc)
    refine bodyPost_ret (v := .tuple #[.agg #[.slice va vn vc], .int .i64 er.1, .int .i64 er.2]) (by simp [results, Tryz.results41, go_sem, b1]) rfl ⟨_, rfl, grown_new HK1.out hg9 (Nat.le_refl _), fun h => ?_, _, _, _, rfl⟩
    obtain ⟨hs', h1, h2⟩ := HR1.out h
    exact ⟨hs', PHostsRow.keep h1 hg9 (safe_box HB1.out (by decide)), h2⟩
end Go.Proofs.YtfocdefchbnkpaaGreatDoor
