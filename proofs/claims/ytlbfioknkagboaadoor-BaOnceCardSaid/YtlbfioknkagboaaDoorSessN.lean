/-
  MATHS OF A SESSION: what its loops do one by one (by numbers, no two alike); frames in a line; each frame comes out once. No program is named.
-/
import Derived.Test.YtlbfioknkagboaaDoorSessM
namespace Go.Proofs.YtlbfioknkagboaaDoor
set_option linter.unusedVariables false
set_option linter.unusedSimpArgs false

abbrev Fm := Mp × Bool
theorem nums_cons (f : Fm) (l : List Fm) : nums (f :: l) = f.1.seq :: nums l := rfl
theorem mem_nums {l : List Fm} {f : Fm} (h : f ∈ l) : f.1.seq ∈ nums l := List.mem_map.2 ⟨f, h, rfl⟩
/-- no two alike: a frame's place is its number's. -/
theorem one_at {l : List Fm} (hn : (nums l).Nodup) {f g : Fm} (hf : f ∈ l) (hg : g ∈ l) (h : f.1.seq = g.1.seq) : f = g := by
  induction l with
  | nil => cases hf
  | cons x r ih =>
    rw [nums_cons, List.nodup_cons] at hn
    rcases List.mem_cons.1 hf with rfl | hf1
    · rcases List.mem_cons.1 hg with rfl | hg1
      · rfl
      · exact absurd (h ▸ mem_nums hg1) hn.1
    · rcases List.mem_cons.1 hg with rfl | hg1
      · exact absurd (h ▸ mem_nums hf1) hn.1
      · exact ih hn.2 hf1 hg1
theorem erase_is : ∀ {l : List Fm} {k : Nat} {f : Fm}, (nums l).Nodup → l[k]? = some f → l.take k ++ l.drop (k + 1) = l.filter fun g => g.1.seq != f.1.seq
  | [], k, f, _, h => by simp at h
  | x :: r, 0, f, hn, h => by
    simp only [List.getElem?_cons_zero, Option.some.injEq] at h
    subst h
    rw [nums_cons, List.nodup_cons] at hn
    have e : r.filter (fun g => g.1.seq != x.1.seq) = r := by
      rw [List.filter_eq_self]
      intro g hg
      simp only [bne_iff_ne, ne_eq]
      exact fun e => hn.1 (e ▸ mem_nums hg)
    simp [e]
  | x :: r, k + 1, f, hn, h => by
    rw [nums_cons, List.nodup_cons] at hn
    simp only [List.getElem?_cons_succ] at h
    have hx : (x.1.seq != f.1.seq) = true := by
      simp only [bne_iff_ne, ne_eq]
      exact fun e => hn.1 (e ▸ mem_nums (List.mem_of_getElem? h))
    have ih := erase_is hn.2 h
    rw [List.filter_cons, if_pos hx, ← ih]
    rfl
theorem set_is : ∀ {l : List Fm} {k : Nat} {f : Fm} (g : Fm → Fm), (nums l).Nodup → l[k]? = some f → l.set k (g f) = l.map fun h => if h.1.seq = f.1.seq then g h else h
  | [], k, f, g, _, h => by simp at h
  | x :: r, 0, f, g, hn, h => by
    simp only [List.getElem?_cons_zero, Option.some.injEq] at h
    subst h
    rw [nums_cons, List.nodup_cons] at hn
    have e : r.map (fun h => if h.1.seq = x.1.seq then g h else h) = r := by
      conv => rhs; rw [← List.map_id r]
      refine List.map_congr_left fun h hh => ?_
      rw [if_neg (fun e : h.1.seq = x.1.seq => hn.1 (e ▸ mem_nums hh))]
      rfl
    simp [e]
  | x :: r, k + 1, f, g, hn, h => by
    rw [nums_cons, List.nodup_cons] at hn
    simp only [List.getElem?_cons_succ] at h
    have hx : ¬ x.1.seq = f.1.seq := fun e => hn.1 (e ▸ mem_nums (List.mem_of_getElem? h))
    rw [List.set_cons_succ, List.map_cons, if_neg hx, set_is g hn.2 h]
theorem nodup_filter {l : List Fm} {p : Fm → Bool} (h : (nums l).Nodup) : (nums (l.filter p)).Nodup := h.sublist (nums_filter p)

/-! ### an answer, one that flies after the other -/
def procH (a : Nat) (bit : Nat → Bool) (xs : List Nat) (l : List Fm) : List Fm :=
  (l.filter fun f => !(f.2 && decide (f.1.seq ∈ xs) && ackB a bit f.1.seq)).map fun f => if f.1.seq ∈ xs then (f.1, false) else f
theorem procH_nil (a : Nat) (bit : Nat → Bool) (l : List Fm) : procH a bit [] l = l := by
  unfold procH
  rw [List.filter_eq_self.2 fun f _ => by simp]
  conv => rhs; rw [← List.map_id l]
  exact List.map_congr_left fun f _ => by simp
theorem procH_all {a : Nat} {bit : Nat → Bool} {l : List Fm} (hn : (nums l).Nodup) : procH a bit ((those true l).map fun m => m.seq) l = heardL a bit l := by
  have hm : ∀ f ∈ l, f.2 = true → f.1.seq ∈ (those true l).map fun m => m.seq := fun f hf h2 => List.mem_map.2 ⟨f.1, List.mem_map.2 ⟨f, List.mem_filter.2 ⟨hf, by simp [h2]⟩, rfl⟩, rfl⟩
  unfold procH heardL
  have e : l.filter (fun f => !(f.2 && decide (f.1.seq ∈ (those true l).map fun m => m.seq) && ackB a bit f.1.seq)) = l.filter fun f => !(f.2 && ackB a bit f.1.seq) := by
    refine List.filter_congr fun f hf => ?_
    cases h2 : f.2
    · rfl
    · rw [decide_eq_true (hm f hf h2)]; rfl
  rw [e]
  refine List.map_congr_left fun f hf => ?_
  have hf1 := (List.mem_filter.1 hf).1
  cases h2 : f.2
  · split
    · rfl
    · obtain ⟨m, b⟩ := f; cases h2; rfl
  · rw [if_pos (hm f hf1 h2)]
theorem procH_nums {a : Nat} {bit : Nat → Bool} {xs : List Nat} {l : List Fm} : List.Sublist (nums (procH a bit xs l)) (nums l) := by
  unfold procH
  rw [nums_map (f := fun f => if f.1.seq ∈ xs then (f.1, false) else f) fun x => by show (if x.1.seq ∈ xs then (x.1, false) else x).1.seq = _; split <;> rfl]
  exact nums_filter _
theorem procH_step {a : Nat} {bit : Nat → Bool} {xs : List Nat} {l : List Fm} {f : Fm} (hn : (nums l).Nodup) (hf : f ∈ l) (h2 : f.2 = true) (hx : f.1.seq ∉ xs) :
    (ackB a bit f.1.seq = true → (procH a bit xs l).filter (fun g => g.1.seq != f.1.seq) = procH a bit (xs ++ [f.1.seq]) l) ∧
    (ackB a bit f.1.seq = false → (procH a bit xs l).map (fun g => if g.1.seq = f.1.seq then (g.1, false) else g) = procH a bit (xs ++ [f.1.seq]) l) := by
  constructor
  · intro hb
    unfold procH
    rw [List.filter_map, List.filter_filter]
    have e : l.filter (fun g => ((fun g : Fm => g.1.seq != f.1.seq) ∘ fun g => if g.1.seq ∈ xs then (g.1, false) else g) g && !(g.2 && decide (g.1.seq ∈ xs) && ackB a bit g.1.seq)) = l.filter fun g => !(g.2 && decide (g.1.seq ∈ xs ++ [f.1.seq]) && ackB a bit g.1.seq) := by
      refine List.filter_congr fun g hg => ?_
      have e1 : ((fun g : Fm => g.1.seq != f.1.seq) ∘ fun g => if g.1.seq ∈ xs then (g.1, false) else g) g = (g.1.seq != f.1.seq) := by
        show ((if g.1.seq ∈ xs then (g.1, false) else g).1.seq != f.1.seq) = _
        split <;> rfl
      rw [e1]
      by_cases hs : g.1.seq = f.1.seq
      · have := one_at hn hg hf hs
        subst this
        simp [h2, hb]
      · simp [hs]
    rw [e]
    refine List.map_congr_left fun g hg => ?_
    have hg1 := List.mem_filter.1 hg
    have hne : g.1.seq ≠ f.1.seq := by
      intro hs
      have := one_at hn hg1.1 hf hs
      subst this
      have := hg1.2
      simp [h2, hb] at this
    simp [hne]
  · intro hb
    unfold procH
    rw [List.map_map]
    have e : l.filter (fun g => !(g.2 && decide (g.1.seq ∈ xs) && ackB a bit g.1.seq)) = l.filter fun g => !(g.2 && decide (g.1.seq ∈ xs ++ [f.1.seq]) && ackB a bit g.1.seq) := by
      refine List.filter_congr fun g hg => ?_
      by_cases hs : g.1.seq = f.1.seq
      · rw [hs, hb]; simp
      · simp [hs]
    rw [e]
    refine List.map_congr_left fun g hg => ?_
    show (if (if g.1.seq ∈ xs then (g.1, false) else g).1.seq = f.1.seq then ((if g.1.seq ∈ xs then (g.1, false) else g).1, false) else if g.1.seq ∈ xs then (g.1, false) else g) = if g.1.seq ∈ xs ++ [f.1.seq] then (g.1, false) else g
    by_cases h1 : g.1.seq ∈ xs
    · simp [h1]
    · by_cases hs : g.1.seq = f.1.seq
      · rw [if_neg h1, if_pos hs, if_pos (by rw [hs]; simp)]
      · simp [h1, hs]
/-! ### what is not worth it, one that is due after the other -/
def procW (retry : Nat) (now : Int) (xs : List Nat) (l : List Fm) : List Fm := l.filter fun f => f.2 || !decide (f.1.seq ∈ xs) || whyM retry now f.1 == 0
theorem procW_nil (retry : Nat) (now : Int) (l : List Fm) : procW retry now [] l = l := List.filter_eq_self.2 fun f _ => by simp
theorem procW_all {retry : Nat} {now : Int} {l : List Fm} : procW retry now ((those false l).map fun m => m.seq) l = sweptL retry now l := by
  refine List.filter_congr fun f hf => ?_
  cases h2 : f.2
  · have hm : f.1.seq ∈ (those false l).map fun m => m.seq := List.mem_map.2 ⟨f.1, List.mem_map.2 ⟨f, List.mem_filter.2 ⟨hf, by simp [h2]⟩, rfl⟩, rfl⟩
    rw [decide_eq_true hm]; rfl
  · rfl
theorem procW_step {retry : Nat} {now : Int} {xs : List Nat} {l : List Fm} {f : Fm} (hn : (nums l).Nodup) (hf : f ∈ l) (h2 : f.2 = false) :
    (whyM retry now f.1 ≠ 0 → (procW retry now xs l).filter (fun g => g.1.seq != f.1.seq) = procW retry now (xs ++ [f.1.seq]) l) ∧
    (whyM retry now f.1 = 0 → procW retry now xs l = procW retry now (xs ++ [f.1.seq]) l) := by
  constructor
  · intro hw
    unfold procW
    rw [List.filter_filter]
    refine List.filter_congr fun g hg => ?_
    by_cases hs : g.1.seq = f.1.seq
    · have := one_at hn hg hf hs
      subst this
      simp [h2, hw]
    · simp [hs]
  · intro hw
    unfold procW
    refine List.filter_congr fun g hg => ?_
    by_cases hs : g.1.seq = f.1.seq
    · have := one_at hn hg hf hs
      subst this
      simp [hw]
    · simp [hs]
/-! ### they go, one after the other -/
theorem went_nil (l : List Fm) : wentL l [] = l := by
  unfold wentL
  conv => rhs; rw [← List.map_id l]
  exact List.map_congr_left fun f _ => by unfold goes; simp
theorem went_step {l : List Fm} {xs : List Nat} {x : Nat} (hx : x ∉ xs) : (wentL l xs).map (fun g => if g.1.seq = x then ({ g.1 with sent := g.1.sent + 1 }, true) else g) = wentL l (xs ++ [x]) := by
  unfold wentL
  rw [List.map_map]
  refine List.map_congr_left fun g _ => ?_
  show (if (goes xs g).1.seq = x then ({ (goes xs g).1 with sent := (goes xs g).1.sent + 1 }, true) else goes xs g) = goes (xs ++ [x]) g
  unfold goes
  by_cases h1 : g.1.seq ∈ xs
  · have hne : g.1.seq ≠ x := fun e => hx (e ▸ h1)
    simp [h1, hne]
  · by_cases hs : g.1.seq = x
    · simp [hs, hx]
    · simp [h1, hs]
end Go.Proofs.YtlbfioknkagboaaDoor
