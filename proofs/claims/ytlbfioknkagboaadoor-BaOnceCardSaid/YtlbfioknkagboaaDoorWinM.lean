/-
  MATHS OF A WINDOW: its start, how many were given out from there on, its size, those that are out (by their distance from the start). No program is named.
-/
import Derived.Test.YtlbfioknkagboaaDoorRows
namespace Go.Proofs.YtlbfioknkagboaaDoor
set_option linter.unusedVariables false
set_option linter.unusedSimpArgs false

structure Wo where
  st : Nat
  gv : Nat
  sz : Nat
  ds : List Nat
/-- the number that is so far from the start. -/
def nmW (w : Wo) (d : Nat) : Nat := (w.st + d) % 4096
def outW (w : Wo) : List Nat := w.ds.map (nmW w)
def distN (a b : Nat) : Nat := (b + 4096 - a % 4096) % 4096
def newW (st sz : Nat) : Wo := ⟨st, 0, sz, []⟩
def nextW (w : Wo) : Wo := ⟨w.st, w.gv + 1, w.sz, w.ds ++ [w.gv]⟩
/-- how far the start goes when these are out. -/
def frontW (w : Wo) (ds : List Nat) : Nat := match ds with | [] => w.gv | d :: _ => d
def doneW (w : Wo) (d : Nat) : Wo := ⟨nmW w (frontW w (w.ds.filter fun k => k != d)), w.gv - frontW w (w.ds.filter fun k => k != d), w.sz, (w.ds.filter fun k => k != d).map fun k => k - frontW w (w.ds.filter fun k => k != d)⟩
structure InvW (w : Wo) : Prop where
  st : w.st < 4096
  sz : 1 ≤ w.sz ∧ w.sz ≤ 64
  gv : w.gv ≤ w.sz
  up : w.ds.Pairwise fun a b => a < b
  lt : ∀ d ∈ w.ds, d < w.gv
  first : frontW w w.ds = 0
theorem nm_lt (w : Wo) (d : Nat) : nmW w d < 4096 := Nat.mod_lt _ (by decide)
theorem nm_inj {w : Wo} {a b : Nat} (ha : a < 4096) (hb : b < 4096) (h : nmW w a = nmW w b) : a = b := by unfold nmW at h; omega
theorem dist_nm {w : Wo} {d : Nat} (hs : w.st < 4096) (hd : d < 4096) : distN w.st (nmW w d) = d := by unfold distN nmW; omega
theorem inv_new {st sz : Nat} (h : st < 4096) (h1 : 1 ≤ sz) (h2 : sz ≤ 64) : InvW (newW st sz) := ⟨h, ⟨h1, h2⟩, Nat.zero_le _, List.Pairwise.nil, fun d hd => (by cases hd), rfl⟩
theorem inv_none {w : Wo} (h : InvW w) (hd : w.ds = []) : w.gv = 0 := by have := h.first; rw [hd] at this; exact this
theorem inv_head {w : Wo} (h : InvW w) {d : Nat} {r : List Nat} (hd : w.ds = d :: r) : d = 0 := by have := h.first; rw [hd] at this; exact this
theorem inv_next {w : Wo} (h : InvW w) (hg : w.gv < w.sz) : InvW (nextW w) := by
  refine ⟨h.st, h.sz, hg, ?_, fun d hd => ?_, ?_⟩
  · show (w.ds ++ [w.gv]).Pairwise _
    rw [List.pairwise_append]
    refine ⟨h.up, by simp, fun a ha b hb => ?_⟩
    rw [List.mem_singleton.1 hb]
    exact h.lt a ha
  · rcases List.mem_append.1 hd with hd | hd
    · have := h.lt d hd; show d < w.gv + 1; omega
    · rw [List.mem_singleton.1 hd]; show w.gv < w.gv + 1; omega
  · show frontW (nextW w) (w.ds ++ [w.gv]) = 0
    cases e : w.ds with
    | nil => exact inv_none h e
    | cons d r => exact inv_head h e
theorem filter_up {ds : List Nat} (h : ds.Pairwise fun a b => a < b) (d : Nat) : (ds.filter fun k => k != d).Pairwise fun a b => a < b := h.filter _
theorem front_le {w : Wo} {ds : List Nat} (h : ds.Pairwise fun a b => a < b) (hl : ∀ d ∈ ds, d < w.gv) : frontW w ds ≤ w.gv ∧ ∀ d ∈ ds, frontW w ds ≤ d := by
  cases ds with
  | nil => exact ⟨Nat.le_refl _, fun d hd => (by cases hd)⟩
  | cons c r =>
    rw [List.pairwise_cons] at h
    refine ⟨by have := hl c List.mem_cons_self; show c ≤ w.gv; omega, fun d hd => ?_⟩
    rcases List.mem_cons.1 hd with e | e
    · rw [e]; exact Nat.le_refl _
    · exact Nat.le_of_lt (h.1 d e)
theorem inv_done {w : Wo} (h : InvW w) (d : Nat) : InvW (doneW w d) := by
  obtain ⟨f1, f2⟩ := front_le (w := w) (filter_up h.up d) fun k hk => h.lt k (List.mem_filter.1 hk).1
  refine ⟨nm_lt _ _, h.sz, by have := h.gv; show w.gv - _ ≤ w.sz; omega, ?_, fun k hk => ?_, ?_⟩
  · show (List.map _ _).Pairwise _
    rw [List.pairwise_map]
    refine (filter_up h.up d).imp_of_mem fun {a b} ha hb hab => ?_
    have := f2 a ha
    have := f2 b hb
    omega
  · obtain ⟨c, hc, rfl⟩ := List.mem_map.1 hk
    have := f2 c hc
    have := h.lt c (List.mem_filter.1 hc).1
    show c - _ < w.gv - _
    omega
  · show frontW (doneW w d) (doneW w d).ds = 0
    unfold doneW
    dsimp only
    cases e : w.ds.filter fun k => k != d with
    | nil => show w.gv - w.gv = 0; omega
    | cons c r => show c - c = 0; omega
/-- what is out, behind it: those that were, but that one. -/
theorem out_done {w : Wo} (h : InvW w) (d : Nat) : outW (doneW w d) = (w.ds.filter fun k => k != d).map (nmW w) := by
  obtain ⟨f1, f2⟩ := front_le (w := w) (filter_up h.up d) fun k hk => h.lt k (List.mem_filter.1 hk).1
  unfold outW doneW
  dsimp only
  rw [List.map_map]
  refine List.map_congr_left fun c hc => ?_
  have := f2 c hc
  show (nmW w _ + (c - _)) % 4096 = nmW w c
  unfold nmW
  omega
theorem up_len {n : Nat} : ∀ (l : List Nat) (m : Nat), l.Pairwise (fun a b => a < b) → (∀ d ∈ l, m ≤ d ∧ d < n) → l.length ≤ n - m
  | [], m, _, _ => Nat.zero_le _
  | x :: t, m, hp, hl => by
    rw [List.pairwise_cons] at hp
    have hx := hl x List.mem_cons_self
    have := up_len t (x + 1) hp.2 fun d hd => ⟨hp.1 d hd, (hl d (List.mem_cons_of_mem _ hd)).2⟩
    rw [List.length_cons]
    omega
theorem out_len {w : Wo} (h : InvW w) : w.ds.length ≤ w.gv := by
  have := up_len w.ds 0 h.up fun d hd => ⟨Nat.zero_le _, h.lt d hd⟩
  omega
/-! ### one by one -/
def lineW (st gv sz : Nat) : Wo := ⟨st, gv, sz, List.range gv⟩
theorem line_next (st gv sz : Nat) : nextW (lineW st gv sz) = lineW st (gv + 1) sz := by unfold nextW lineW; rw [List.range_succ]
theorem line_done {st gv sz : Nat} : doneW (lineW st (gv + 1) sz) 0 = lineW ((st + 1) % 4096) gv sz := by
  have e : (List.range (gv + 1)).filter (fun k => k != 0) = (List.range gv).map fun k => k + 1 := by
    rw [List.range_succ_eq_map, List.filter_cons]
    simp only [bne_self_eq_false, Bool.false_eq_true, if_false]
    rw [List.filter_eq_self.2]
    intro k hk
    obtain ⟨j, -, rfl⟩ := List.mem_map.1 hk
    simp
  have f : frontW (lineW st (gv + 1) sz) ((List.range gv).map fun k => k + 1) = 1 := by
    cases gv with
    | zero => rfl
    | succ n => rw [List.range_succ_eq_map]; rfl
  unfold doneW
  rw [show (lineW st (gv + 1) sz).ds = List.range (gv + 1) from rfl, e, f]
  unfold lineW nmW
  simp only [List.map_map]
  congr 1
  conv => rhs; rw [← List.map_id (List.range gv)]
  refine List.map_congr_left fun k _ => ?_
  simp
/-! ### gaps: of those that were given out the ones whose bit is set are done, from the last one on -/
/-- behind those from i on. -/
def gapL (bit : Nat → Bool) (n i : Nat) : List Nat := List.range i ++ ((List.range n).filter fun k => decide (i ≤ k) && !bit k)
theorem gap_start (bit : Nat → Bool) (n : Nat) : gapL bit n n = List.range n := by
  unfold gapL
  rw [List.filter_eq_nil_iff.2, List.append_nil]
  intro k hk
  have := List.mem_range.1 hk
  simp; omega
theorem gap_mem {bit : Nat → Bool} {n i k : Nat} (hi : i ≤ n) : k ∈ gapL bit n i ↔ k < n ∧ (k < i ∨ bit k = false) := by
  unfold gapL
  rw [List.mem_append, List.mem_range, List.mem_filter, List.mem_range]
  simp
  constructor
  · rintro (h | ⟨h1, h2, h3⟩)
    · exact ⟨by omega, .inl h⟩
    · exact ⟨h1, .inr h3⟩
  · rintro ⟨h1, h2 | h2⟩
    · exact .inl h2
    · by_cases h : k < i
      · exact .inl h
      · exact .inr ⟨h1, by omega, h2⟩
theorem gap_up {bit : Nat → Bool} {n i : Nat} : (gapL bit n i).Pairwise fun a b => a < b := by
  unfold gapL
  rw [List.pairwise_append]
  refine ⟨List.pairwise_lt_range, List.pairwise_lt_range.filter _, fun a ha b hb => ?_⟩
  have h1 := List.mem_range.1 ha
  have h2 := (List.mem_filter.1 hb).2
  simp at h2
  omega
/-- lists that rise are one if they have the same members. -/
theorem up_one : ∀ {l r : List Nat}, l.Pairwise (fun a b => a < b) → r.Pairwise (fun a b => a < b) → (∀ k, k ∈ l ↔ k ∈ r) → l = r
  | [], [], _, _, _ => rfl
  | [], b :: r, _, _, h => by have := (h b).2 List.mem_cons_self; cases this
  | a :: l, [], _, _, h => by have := (h a).1 List.mem_cons_self; cases this
  | a :: l, b :: r, hl, hr, h => by
    rw [List.pairwise_cons] at hl hr
    have e : a = b := by
      have h1 := (h a).1 List.mem_cons_self
      have h2 := (h b).2 List.mem_cons_self
      rcases List.mem_cons.1 h1 with e | e
      · exact e
      · rcases List.mem_cons.1 h2 with e2 | e2
        · exact e2.symm
        · have := hr.1 a e
          have := hl.1 b e2
          omega
    subst e
    congr 1
    refine up_one hl.2 hr.2 fun k => ⟨fun hk => ?_, fun hk => ?_⟩
    · have h1 := hl.1 k hk
      rcases List.mem_cons.1 ((h k).1 (List.mem_cons_of_mem _ hk)) with e | e
      · omega
      · exact e
    · have h1 := hr.1 k hk
      rcases List.mem_cons.1 ((h k).2 (List.mem_cons_of_mem _ hk)) with e | e
      · omega
      · exact e
theorem gap_keep {bit : Nat → Bool} {n i : Nat} (hi : i < n) (hb : bit i = false) : gapL bit n i = gapL bit n (i + 1) :=
  up_one gap_up gap_up fun k => by
    rw [gap_mem (by omega), gap_mem (by omega)]
    constructor
    · rintro ⟨h1, h2 | h2⟩
      · exact ⟨h1, .inl (by omega)⟩
      · exact ⟨h1, .inr h2⟩
    · rintro ⟨h1, h2 | h2⟩
      · by_cases e : k = i
        · subst e; exact ⟨h1, .inr hb⟩
        · exact ⟨h1, .inl (by omega)⟩
      · exact ⟨h1, .inr h2⟩
theorem gap_done {bit : Nat → Bool} {n i : Nat} (hi : i < n) (hb : bit i = true) : (gapL bit n (i + 1)).filter (fun k => k != i) = gapL bit n i :=
  up_one (gap_up.filter _) gap_up fun k => by
    rw [List.mem_filter, gap_mem (by omega), gap_mem (by omega)]
    simp only [bne_iff_ne, ne_eq]
    constructor
    · rintro ⟨⟨h1, h2 | h2⟩, h3⟩
      · exact ⟨h1, .inl (by omega)⟩
      · exact ⟨h1, .inr h2⟩
    · rintro ⟨h1, h2 | h2⟩
      · exact ⟨⟨h1, .inl (by omega)⟩, by omega⟩
      · exact ⟨⟨h1, .inr h2⟩, fun e => by subst e; rw [hb] at h2; cases h2⟩
/-- done in the midst: the start stands. -/
theorem mid_done {w : Wo} {d : Nat} {r : List Nat} (hst : w.st < 4096) (h : w.ds = 0 :: r) (hd : d ≠ 0) : doneW w d = ⟨w.st, w.gv, w.sz, w.ds.filter fun k => k != d⟩ := by
  have e : w.ds.filter (fun k => k != d) = 0 :: r.filter fun k => k != d := by
    rw [h, List.filter_cons, if_pos (by simp; exact fun e => hd e.symm)]
  unfold doneW
  rw [e]
  have f : frontW w (0 :: r.filter fun k => k != d) = 0 := rfl
  rw [f]
  unfold nmW
  simp only [Nat.add_zero, Nat.sub_zero, List.map_id']
  rw [Nat.mod_eq_of_lt hst]
end Go.Proofs.YtlbfioknkagboaaDoor
