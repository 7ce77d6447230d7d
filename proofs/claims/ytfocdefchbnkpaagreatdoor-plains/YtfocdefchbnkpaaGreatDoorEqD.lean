/- What the program reads is what the document's own function reads: errors, and hosts in their order. -/
import Derived.Test.YtfocdefchbnkpaaGreatDoorEqB
import Derived.Test.YtfocdefchbnkpaaGreatDoorRefS
import Derived.Test.YtfocdefchbnkpaaGreatDoorProW
namespace Go.Proofs.YtfocdefchbnkpaaGreatDoor
open Go.RowKit

theorem P.errT_eq (l : List UInt8) : P.errT l = R.errS l := by
  unfold P.errT R.errS
  by_cases hl : 3000 < l.length
  · rw [if_pos hl, if_pos hl]
  · rw [if_neg hl, if_neg hl]
    rcases read_res l (by omega) with ⟨h1, h2, h3, h4, _⟩ | d
    · rw [if_neg (by omega)]
      unfold P.errS
      rw [if_neg (by rw [h2]; simp), h3]
      by_cases hE : (R.readS l).2.E = 0
      · rw [if_neg (by simpa using hE), if_pos hE, hE]
      · rw [if_pos hE, if_neg hE, h4 hE]
    · rw [if_pos d.bad]
      unfold P.errS
      rw [if_pos d.broken, d.place]

def toRl (r : P.Rl) : R.Rl := rlOf r (decide (r.rep ≠ []))
def toR (h : P.Hst) : R.Hst := ⟨h.name, h.rules.map toRl⟩
theorem rl_to {a : R.Rl} {b : P.Rl} (h : RlSim a b) (hg : GoodRl a) : a = toRl b := by
  obtain ⟨h1, h2⟩ := h
  have e : a.change = decide (b.rep ≠ []) := by
    cases hc : a.change with
    | false => rw [h2 hc]; simp
    | true =>
      have h3 := hg.2 hc
      rw [h1] at h3
      exact (decide_eq_true h3).symm
  rw [h1, e]; rfl
theorem rls_to {a : List R.Rl} {b : List P.Rl} (h : All2 RlSim a b) (hg : ∀ r ∈ a, GoodRl r) : a = b.map toRl := by
  induction h with
  | nil => rfl
  | cons h _ ih => rw [List.map_cons, ← ih (fun r hr => hg r (by simp [hr])), ← rl_to h (hg _ (by simp))]
theorem hst_to {a : R.Hst} {b : P.Hst} (h : HstSim a b) (hg : GoodHst a) : a = toR b := by
  obtain ⟨h1, h2⟩ := h
  cases a
  simp only at h1 h2
  rw [h1, rls_to h2 hg.2.2.2]; rfl
theorem hsts_to {a : List R.Hst} {b : List P.Hst} (h : All2 HstSim a b) (hg : ∀ r ∈ a, GoodHst r) : a = b.map toR := by
  induction h with
  | nil => rfl
  | cons h _ ih => rw [List.map_cons, ← ih (fun r hr => hg r (by simp [hr])), ← hst_to h (hg _ (by simp))]

theorem read_eq (l : List UInt8) (hl : l.length ≤ 3000) (hb : (P.readS l).2.broken = false) (he : (P.readS l).2.err = 0) : GoodHs (R.readS l).1 ∧ (R.readS l).1 = (P.readS l).1.map toR := by
  rcases read_res l hl with ⟨h1, h2, h3, h4, h5⟩ | d
  · have hg := read_good l hl ⟨h1, by rw [← h3]; exact he⟩
    exact ⟨hg, hsts_to h5 hg.2.2⟩
  · rw [d.broken] at hb; cases hb
theorem read_few (l : List UInt8) (hl : l.length ≤ 3000) (hb : (P.readS l).2.broken = false) (he : (P.readS l).2.err = 0) : (P.readS l).1.length ≤ 12 ∧ ∀ h ∈ (P.readS l).1, h.rules.length ≤ 12 := by
  obtain ⟨hg, e⟩ := read_eq l hl hb he
  rw [e] at hg
  refine ⟨by have := hg.1; simp at this; omega, fun h hh => ?_⟩
  have := (hg.2.2 (toR h) (List.mem_map_of_mem hh)).2.1
  simp [toR] at this; omega

section
variable {α : Type} (lt : α → α → Bool)
def gIns (out : List α) (x : α) : List α := out.take (out.takeWhile fun o => lt o x).length ++ [x] ++ out.drop (out.takeWhile fun o => lt o x).length
def gSort (l : List α) : List α := l.foldl (gIns lt) []
theorem gIns_perm (out : List α) (x : α) : (gIns lt out x).Perm (x :: out) := by
  unfold gIns
  rw [List.append_assoc, List.singleton_append]
  refine List.perm_middle.trans ?_
  rw [List.take_append_drop]
theorem take_tw (p : α → Bool) (l : List α) : l.take (l.takeWhile p).length = l.takeWhile p := by
  induction l with
  | nil => rfl
  | cons a l ih =>
    rw [List.takeWhile_cons]; split
    · rw [List.length_cons, List.take_succ_cons, ih]
    · rfl
theorem drop_tw (p : α → Bool) (l : List α) : l.drop (l.takeWhile p).length = l.dropWhile p := by
  induction l with
  | nil => rfl
  | cons a l ih =>
    rw [List.takeWhile_cons, List.dropWhile_cons]; split
    · rw [List.length_cons, List.drop_succ_cons, ih]
    · rfl
theorem mem_tw (p : α → Bool) (l : List α) : ∀ a ∈ l.takeWhile p, p a = true := by
  induction l with
  | nil => intro a ha; simp at ha
  | cons b l ih =>
    intro a ha
    rw [List.takeWhile_cons] at ha
    split at ha
    · rename_i hb
      rcases List.mem_cons.1 ha with rfl | ha
      · exact hb
      · exact ih a ha
    · simp at ha
theorem mem_dw (hS : Go.Sort.SWO lt) (x : α) (l : List α) (hl : l.Pairwise (fun a b => lt b a = false)) : ∀ a ∈ l.dropWhile (fun o => lt o x), lt a x = false := by
  induction l with
  | nil => intro a ha; simp at ha
  | cons b l ih =>
    intro a ha
    rw [List.pairwise_cons] at hl
    rw [List.dropWhile_cons] at ha
    split at ha
    · exact ih hl.2 a ha
    · rename_i hb
      have hb' : lt b x = false := by simpa using hb
      rcases List.mem_cons.1 ha with rfl | ha
      · exact hb'
      · exact hS.ntrans a b x (hl.1 a ha) hb'
theorem gIns_sorted (hS : Go.Sort.SWO lt) (out : List α) (x : α) (h : out.Pairwise (fun a b => lt b a = false)) : (gIns lt out x).Pairwise (fun a b => lt b a = false) := by
  unfold gIns
  rw [take_tw, drop_tw]
  have h0 := h
  rw [← List.takeWhile_append_dropWhile (p := fun o => lt o x) (l := out), List.pairwise_append] at h0
  obtain ⟨h1, h2, h3⟩ := h0
  rw [List.append_assoc, List.singleton_append, List.pairwise_append, List.pairwise_cons]
  refine ⟨h1, ⟨fun b hb => mem_dw lt hS x out h b hb, h2⟩, fun a ha b hb => ?_⟩
  rcases List.mem_cons.1 hb with rfl | hb
  · have := mem_tw _ _ a ha
    exact Go.Sort.SWO.asymmA hS this
  · exact h3 a ha b hb
theorem gFold (hS : Go.Sort.SWO lt) (l : List α) : ∀ out : List α, out.Pairwise (fun a b => lt b a = false) → (l.foldl (gIns lt) out).Perm (l ++ out) ∧ (l.foldl (gIns lt) out).Pairwise (fun a b => lt b a = false) := by
  induction l with
  | nil => intro out h; exact ⟨List.Perm.refl _, h⟩
  | cons x l ih =>
    intro out h
    obtain ⟨h1, h2⟩ := ih (gIns lt out x) (gIns_sorted lt hS out x h)
    refine ⟨h1.trans ?_, h2⟩
    refine ((gIns_perm lt out x).append_left l).trans ?_
    exact List.perm_middle
end

def rlLt (a b : R.Rl) : Bool := decide (a.number < b.number)
def hsLt (a b : R.Hst) : Bool := R.nameLt a.name b.name
theorem swo_rlLt : Go.Sort.SWO rlLt := ⟨fun x => by simp [rlLt], fun x y z h1 h2 => by simp [rlLt] at *; omega, fun x y z h1 h2 => by simp [rlLt] at *; omega⟩
theorem nameLt_str (a b : List UInt8) : R.nameLt a b = Go.Sort.ltStr a b := by unfold R.nameLt Go.Sort.ltStr; rw [bytesLess_eq]
theorem swo_hsLt : Go.Sort.SWO hsLt := ⟨fun x => by unfold hsLt; rw [nameLt_str]; exact Go.Sort.swo_ltStr.irrefl _, fun x y z => by unfold hsLt; rw [nameLt_str, nameLt_str, nameLt_str]; exact Go.Sort.swo_ltStr.trans _ _ _, fun x y z => by unfold hsLt; rw [nameLt_str, nameLt_str, nameLt_str]; exact Go.Sort.swo_ltStr.ntrans _ _ _⟩
theorem str_anti (a b : List UInt8) (h1 : Go.Sort.ltStr a b = false) (h2 : Go.Sort.ltStr b a = false) : a = b := by
  unfold Go.Sort.ltStr at h1 h2
  simp at h1 h2
  exact List.le_antisymm h2 h1
theorem sorted_gSort (l : List R.Rl) : R.sorted l = gSort rlLt l := rfl
theorem sortH_gSort (l : List R.Hst) : R.sortH l = gSort hsLt (l.map fun h => ⟨h.name, R.sorted h.rules⟩) := by
  unfold R.sortH gSort
  rw [List.foldl_map]; rfl
theorem inj_of_pairwise {α β : Type} {f : α → β} (l : List α) (h : (l.map f).Pairwise (· ≠ ·)) {a b : α} (ha : a ∈ l) (hb : b ∈ l) (e : f a = f b) : a = b := by
  induction l with
  | nil => simp at ha
  | cons x l ih =>
    rw [List.map_cons, List.pairwise_cons] at h
    rcases List.mem_cons.1 ha with ea | ha1
    · rcases List.mem_cons.1 hb with eb | hb1
      · rw [ea, eb]
      · exact absurd (ea ▸ e) (h.1 _ (List.mem_map_of_mem hb1))
    · rcases List.mem_cons.1 hb with eb | hb1
      · exact absurd (eb ▸ e).symm (h.1 _ (List.mem_map_of_mem ha1))
      · exact ih h.2 ha1 hb1
/-- Rules in the order of their numbers: there is one such list. -/
theorem rules_uniq (l m : List R.Rl) (hp : m.Perm l) (hs : m.Pairwise (fun a b => rlLt b a = false)) (hd : (l.map R.Rl.number).Pairwise (· ≠ ·)) : m = R.sorted l := by
  obtain ⟨h1, h2⟩ := gFold rlLt swo_rlLt l [] .nil
  rw [List.append_nil] at h1
  rw [sorted_gSort]
  refine List.Perm.eq_of_pairwise (le := fun a b => rlLt b a = false) ?_ hs h2 (hp.trans h1.symm)
  intro a b ha hb g1 g2
  have e : a.number = b.number := by simp [rlLt] at g1 g2; omega
  have ha' := hp.mem_iff.1 ha
  have hb' := h1.mem_iff.1 hb
  exact inj_of_pairwise l hd ha' hb' e
/-- The rules of each host in their order. -/
def srtH (h : R.Hst) : R.Hst := ⟨h.name, R.sorted h.rules⟩
theorem hosts_uniq (l m : List R.Hst) (hp : m.Perm (l.map srtH)) (hs : m.Pairwise (fun a b => hsLt b a = false)) (hd : (l.map R.Hst.name).Pairwise (· ≠ ·)) : m = R.sortH l := by
  obtain ⟨h1, h2⟩ := gFold hsLt swo_hsLt (l.map srtH) [] .nil
  rw [List.append_nil] at h1
  rw [sortH_gSort]
  refine List.Perm.eq_of_pairwise (le := fun a b => hsLt b a = false) ?_ hs h2 (hp.trans h1.symm)
  intro a b ha hb g1 g2
  unfold hsLt at g1 g2
  rw [nameLt_str] at g1 g2
  have e : a.name = b.name := str_anti _ _ g2 g1
  have hd2 : ((l.map srtH).map R.Hst.name).Pairwise (· ≠ ·) := by rw [List.map_map]; exact hd
  exact inj_of_pairwise _ hd2 (hp.mem_iff.1 ha) (h1.mem_iff.1 hb) e
theorem srt_rules {a b : P.Hst} (h : SrtR a b) (hd : ((toR a).rules.map R.Rl.number).Pairwise (· ≠ ·)) : toR b = srtH (toR a) := by
  obtain ⟨h1, h2, h3⟩ := h
  have e : b.rules.map toRl = R.sorted (a.rules.map toRl) := by
    refine rules_uniq _ _ (h2.map toRl) ?_ hd
    rw [List.pairwise_map]
    exact h3
  unfold toR srtH
  simp only
  rw [h1, e]
/-- What the program has sorted is what the document's own function sorts. -/
theorem srt_eq {ps hs' : List P.Hst} (h : SrtH ps hs') (hg : GoodHs (ps.map toR)) : hs'.map toR = R.sortH (ps.map toR) := by
  obtain ⟨p, h1, h2, h3, h4⟩ := h
  have e : hs'.map toR = (p.map toR).map srtH := by
    apply List.ext_getElem
    · simp [h3]
    · intro j g1 g2
      simp only [List.getElem_map]
      have k1 : j < p.length := by simpa using g2
      have k2 : j < hs'.length := by simpa using g1
      refine srt_rules (h4 j k1 k2) ?_
      exact (hg.2.2 (toR p[j]) (List.mem_map_of_mem (h1.mem_iff.1 (List.getElem_mem k1)))).2.2.1
  refine hosts_uniq _ _ ?_ ?_ hg.2.1
  · rw [e]; exact ((h1.map toR).map srtH)
  · rw [e, List.pairwise_map, List.pairwise_map]
    refine h2.imp ?_
    intro a b hab
    show R.nameLt b.name a.name = false
    rw [nameLt_str]; exact hab
/-- What comes out is small enough to be written. -/
theorem sortH_small {l : List R.Hst} (hg : GoodHs l) : (R.sortH l).length ≤ 4 ∧ ∀ h ∈ R.sortH l, R.SmallH h := by
  refine ⟨by rw [sortH_len]; exact hg.1, fun h hh => ?_⟩
  obtain ⟨h1, _⟩ := gFold hsLt swo_hsLt (l.map srtH) [] .nil
  rw [List.append_nil] at h1
  rw [sortH_gSort] at hh
  obtain ⟨x, hx, rfl⟩ := List.mem_map.1 (h1.mem_iff.1 hh)
  obtain ⟨g1, g2, _, g3⟩ := hg.2.2 x hx
  refine ⟨g1, ?_, fun r hr => ?_⟩
  · show (R.sorted x.rules).length ≤ 4000
    rw [sorted_len]; omega
  · obtain ⟨h2, _⟩ := gFold rlLt swo_rlLt x.rules [] .nil
    rw [List.append_nil] at h2
    exact (g3 r (h2.mem_iff.1 hr)).1
end Go.Proofs.YtfocdefchbnkpaaGreatDoor
