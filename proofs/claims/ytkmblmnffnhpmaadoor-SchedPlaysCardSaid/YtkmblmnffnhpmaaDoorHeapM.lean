/-
  MATHS OF container/heap: what up and down keep, what Push, Pop, Remove, Fix make; the least stands first; a heap emptied by Pop is a list in order. No program is named.
-/
import Derived.Test.YtkmblmnffnhpmaaDoorSchedM
namespace Go.Proofs.YtkmblmnffnhpmaaDoor
set_option linter.unusedVariables false
set_option linter.unusedSimpArgs false

/-- an order by which a heap may stand. -/
structure Slo {α : Type} (lt : α → α → Prop) : Prop where
  irr : ∀ a, ¬ lt a a
  tr : ∀ a b c, lt a b → lt b c → lt a c
  neg : ∀ a b c, ¬ lt a b → ¬ lt b c → ¬ lt a c
section
variable {α : Type} {lt : α → α → Prop} {f g : Nat → α} {n i j : Nat}
theorem Slo.asym (h : Slo lt) {a b : α} (x : lt a b) : ¬ lt b a := fun y => h.irr a (h.tr _ _ _ x y)
/-- the first n stand as a heap. -/
def HeapF (lt : α → α → Prop) (f : Nat → α) (n : Nat) : Prop := ∀ k, 0 < k → k < n → ¬ lt (f k) (f ((k - 1) / 2))
/-- but for the one at j, which may be less than what is above it. -/
def UpF (lt : α → α → Prop) (f : Nat → α) (n j : Nat) : Prop :=
  (∀ k, 0 < k → k < n → k ≠ j → ¬ lt (f k) (f ((k - 1) / 2))) ∧ (0 < j → ∀ k, k < n → 0 < k → (k - 1) / 2 = j → ¬ lt (f k) (f ((j - 1) / 2)))
/-- but for the one at i, which may be above what is below it. -/
def DownF (lt : α → α → Prop) (f : Nat → α) (n i : Nat) : Prop :=
  (∀ k, 0 < k → k < n → (k - 1) / 2 ≠ i → ¬ lt (f k) (f ((k - 1) / 2))) ∧ (0 < i → ∀ k, k < n → 0 < k → (k - 1) / 2 = i → ¬ lt (f k) (f ((i - 1) / 2)))
/-- but for the one at i, either way. -/
def OddF (lt : α → α → Prop) (f : Nat → α) (n i : Nat) : Prop :=
  (∀ k, 0 < k → k < n → k ≠ i → (k - 1) / 2 ≠ i → ¬ lt (f k) (f ((k - 1) / 2))) ∧ (0 < i → ∀ k, k < n → 0 < k → (k - 1) / 2 = i → ¬ lt (f k) (f ((i - 1) / 2)))
/-- g is f with i and j changed for one another. -/
structure Swapped (f g : Nat → α) (i j : Nat) : Prop where
  at_i : g i = f j
  at_j : g j = f i
  else_ : ∀ k, k ≠ i → k ≠ j → g k = f k
theorem HeapF.le (h : HeapF lt f n) {m : Nat} (hm : m ≤ n) : HeapF lt f m := fun k h0 h1 => h k h0 (by omega)
theorem HeapF.congr (h : HeapF lt f n) (e : ∀ k, k < n → g k = f k) : HeapF lt g n := fun k h0 h1 => by rw [e k h1, e _ (by omega)]; exact h k h0 h1
theorem heap_0 : HeapF lt f 0 := fun k _ h => absurd h (by omega)
theorem heap_1 : HeapF lt f 1 := fun k h0 h1 => absurd h1 (by omega)

/-! ### up -/
theorem up_stop (h : UpF lt f n j) (hs : j = 0 ∨ ¬ lt (f j) (f ((j - 1) / 2))) : HeapF lt f n := fun k h0 h1 => by
  by_cases e : k = j
  · subst e
    rcases hs with rfl | hs
    · omega
    · exact hs
  · exact h.1 k h0 h1 e
theorem up_step (hO : Slo lt) (h : UpF lt f n j) (hj : 0 < j) (hn : j < n) (hl : lt (f j) (f ((j - 1) / 2))) (hg : Swapped f g ((j - 1) / 2) j) : UpF lt g n ((j - 1) / 2) := by
  obtain ⟨i, hi⟩ : ∃ i, i = (j - 1) / 2 := ⟨_, rfl⟩
  rw [← hi] at hl hg ⊢
  have hij : i < j := by omega
  refine ⟨fun k h0 h1 hk => ?_, fun hi0 k h1 h0 hk => ?_⟩
  · by_cases e : k = j
    · subst e
      rw [hg.at_j, ← hi, hg.at_i]
      exact hO.asym hl
    · rw [hg.else_ k hk e]
      by_cases e1 : (k - 1) / 2 = i
      · rw [e1, hg.at_i]
        have h2 := h.1 k h0 h1 e
        rw [e1] at h2
        exact fun x => h2 (hO.tr _ _ _ x hl)
      · by_cases e2 : (k - 1) / 2 = j
        · rw [e2, hg.at_j]
          have h2 := h.2 hj k h1 h0 e2
          rw [← hi] at h2
          exact h2
        · rw [hg.else_ _ e1 e2]
          exact h.1 k h0 h1 e
  · have hp1 : (i - 1) / 2 ≠ i := by omega
    have hp2 : (i - 1) / 2 ≠ j := by omega
    rw [hg.else_ _ hp1 hp2]
    have hii := h.1 i hi0 (by omega) (by omega)
    by_cases e : k = j
    · subst e
      rw [hg.at_j]
      exact hii
    · have hki : k ≠ i := by omega
      rw [hg.else_ k hki e]
      have h2 := h.1 k h0 h1 e
      rw [hk] at h2
      exact hO.neg _ _ _ h2 hii
/-- a Push: the new one stands at the end. -/
theorem up_push (h : HeapF lt f n) (e : ∀ k, k < n → g k = f k) : UpF lt g (n + 1) n :=
  ⟨fun k h0 h1 hk => by rw [e k (by omega), e _ (by omega)]; exact h k h0 (by omega), fun hn k h1 h0 hk => absurd hk (by omega)⟩

/-! ### down -/
/-- j is the lesser of those below i. -/
structure Least (lt : α → α → Prop) (f : Nat → α) (n i j : Nat) : Prop where
  lt_n : j < n
  child : j = 2 * i + 1 ∨ j = 2 * i + 2
  least : ∀ k, k < n → (k = 2 * i + 1 ∨ k = 2 * i + 2) → ¬ lt (f k) (f j)
theorem least_one (hO : Slo lt) (h1 : 2 * i + 1 < n) (h2 : n ≤ 2 * i + 2) : Least lt f n i (2 * i + 1) := ⟨h1, .inl rfl, fun k hk hc => by
  obtain rfl : k = 2 * i + 1 := by omega
  exact hO.irr _⟩
theorem least_left (hO : Slo lt) (h2 : 2 * i + 2 < n) (hl : ¬ lt (f (2 * i + 2)) (f (2 * i + 1))) : Least lt f n i (2 * i + 1) := ⟨by omega, .inl rfl, fun k hk hc => by
  rcases hc with rfl | rfl
  · exact hO.irr _
  · exact hl⟩
theorem least_right (hO : Slo lt) (h2 : 2 * i + 2 < n) (hl : lt (f (2 * i + 2)) (f (2 * i + 1))) : Least lt f n i (2 * i + 2) := ⟨h2, .inr rfl, fun k hk hc => by
  rcases hc with rfl | rfl
  · exact hO.asym hl
  · exact hO.irr _⟩
theorem down_none (h : DownF lt f n i) (hn : n ≤ 2 * i + 1) : HeapF lt f n := fun k h0 h1 => h.1 k h0 h1 (by omega)
theorem down_stop (hO : Slo lt) (h : DownF lt f n i) (hl : Least lt f n i j) (hs : ¬ lt (f j) (f i)) : HeapF lt f n := fun k h0 h1 => by
  by_cases e : (k - 1) / 2 = i
  · rw [e]
    exact hO.neg _ _ _ (hl.least k h1 (by omega)) hs
  · exact h.1 k h0 h1 e
theorem down_step (hO : Slo lt) (h : DownF lt f n i) (hl : Least lt f n i j) (hs : lt (f j) (f i)) (hg : Swapped f g i j) : DownF lt g n j := by
  have hjn := hl.lt_n
  have hc := hl.child
  have hpj : (j - 1) / 2 = i := by omega
  refine ⟨fun k h0 h1 hk => ?_, fun hj0 k h1 h0 hk => ?_⟩
  · by_cases e : k = j
    · subst e
      rw [hg.at_j, hpj, hg.at_i]
      exact hO.asym hs
    · by_cases e1 : (k - 1) / 2 = i
      · have hki : k ≠ i := by omega
        rw [hg.else_ k hki e, e1, hg.at_i]
        exact hl.least k h1 (by omega)
      · rw [hg.else_ _ e1 hk]
        by_cases e2 : k = i
        · subst e2
          rw [hg.at_i]
          exact h.2 h0 j hjn (by omega) hpj
        · rw [hg.else_ k e2 e]
          exact h.1 k h0 h1 e1
  · rw [hpj, hg.at_i]
    have hk1 : k ≠ i := by omega
    have hk2 : k ≠ j := by omega
    rw [hg.else_ k hk1 hk2]
    have := h.1 k h0 h1 (by omega)
    rw [hk] at this
    exact this
/-- Pop: the first and the last changed, the last left out. -/
theorem down_pop (h : HeapF lt f (n + 1)) (e : ∀ k, 0 < k → k < n → g k = f k) : DownF lt g n 0 :=
  ⟨fun k h0 h1 hk => by rw [e k h0 h1, e _ (by omega) (by omega)]; exact h k h0 (by omega), fun h => absurd h (by omega)⟩
/-- the root is the least. -/
theorem heap_root (hO : Slo lt) (h : HeapF lt f n) : ∀ k, k < n → ¬ lt (f k) (f 0)
  | k, hk => by
    by_cases e : k = 0
    · subst e; exact hO.irr _
    · exact hO.neg _ _ _ (h k (by omega) hk) (heap_root hO h ((k - 1) / 2) (by omega))
termination_by k => k

/-! ### Fix, Remove: one stands anew -/
theorem odd_set (hO : Slo lt) (h : HeapF lt f n) (hi : i < n) (e : ∀ k, k < n → k ≠ i → g k = f k) : OddF lt g n i := by
  refine ⟨fun k h0 h1 h2 h3 => ?_, fun hi0 k h1 h0 hk => ?_⟩
  · rw [e k h1 h2, e _ (by omega) h3]
    exact h k h0 h1
  · rw [e k h1 (by omega), e _ (by omega) (by omega)]
    have h2 := h k h0 h1
    rw [hk] at h2
    exact hO.neg _ _ _ h2 (h i hi0 hi)
/-- Remove: the one at i and the last changed, the last left out. -/
theorem odd_remove (hO : Slo lt) (h : HeapF lt f (n + 1)) (hi : i < n) (e : ∀ k, k < n → k ≠ i → g k = f k) : OddF lt g n i := odd_set hO (h.le (Nat.le_succ n)) hi e
/-- one that is above what is below it goes down. -/
theorem odd_down (hO : Slo lt) (h : OddF lt f n i) (hl : Least lt f n i j) (hs : lt (f j) (f i)) : DownF lt f n i := by
  refine ⟨fun k h0 h1 hk => ?_, h.2⟩
  by_cases e : k = i
  · subst e
    have hc := hl.child
    have h2 := h.2 h0 j hl.lt_n (by omega) (by omega)
    exact fun x => h2 (hO.tr _ _ _ hs x)
  · exact h.1 k h0 h1 e hk
/-- one that is not, up. -/
theorem odd_up_none (h : OddF lt f n i) (hn : n ≤ 2 * i + 1) : UpF lt f n i := ⟨fun k h0 h1 hk => h.1 k h0 h1 hk (by omega), h.2⟩
theorem odd_up (hO : Slo lt) (h : OddF lt f n i) (hl : Least lt f n i j) (hs : ¬ lt (f j) (f i)) : UpF lt f n i := by
  refine ⟨fun k h0 h1 hk => ?_, h.2⟩
  by_cases e : (k - 1) / 2 = i
  · rw [e]
    exact hO.neg _ _ _ (hl.least k h1 (by omega)) hs
  · exact h.1 k h0 h1 hk e
/-- Init: from the last that has one below it to the first: the part behind i stands already. -/
def PartF (lt : α → α → Prop) (f : Nat → α) (n i : Nat) : Prop := ∀ k, 0 < k → k < n → i ≤ (k - 1) / 2 → ¬ lt (f k) (f ((k - 1) / 2))
theorem part_half (hn : n ≤ 2 * i + 1) : PartF lt f n i := fun k h0 h1 h => absurd h (by omega)
theorem part_0 (h : PartF lt f n 0) : HeapF lt f n := fun k h0 h1 => h k h0 h1 (by omega)
end

/-! ### as lists -/
section
variable {α : Type} {lt : α → α → Prop}
def swapL (d : α) (l : List α) (i j : Nat) : List α := (l.set i (l.getD j d)).set j (l.getD i d)
theorem swapL_len (d : α) (l : List α) (i j : Nat) : (swapL d l i j).length = l.length := by unfold swapL; rw [List.length_set, List.length_set]
theorem getD_set' (d : α) (l : List α) (i k : Nat) (v : α) (h : i < l.length) : (l.set i v).getD k d = if k = i then v else l.getD k d := by
  unfold List.getD
  rw [List.getElem?_set]
  by_cases e : i = k
  · subst e; simp [h]
  · rw [if_neg e, if_neg fun h : k = i => e h.symm]
theorem swapL_swapped (d : α) (l : List α) {i j : Nat} (hi : i < l.length) (hj : j < l.length) : Swapped (fun k => l.getD k d) (fun k => (swapL d l i j).getD k d) i j := by
  have e : ∀ k, (swapL d l i j).getD k d = if k = j then l.getD i d else if k = i then l.getD j d else l.getD k d := fun k => by
    unfold swapL
    rw [getD_set' _ _ _ _ _ (by rw [List.length_set]; exact hj), getD_set' _ _ _ _ _ hi]
  refine ⟨?_, ?_, fun k h1 h2 => ?_⟩
  · show (swapL d l i j).getD i d = l.getD j d
    rw [e, if_pos rfl]
    split
    · rename_i h; rw [h]
    · rfl
  · show (swapL d l i j).getD j d = l.getD i d
    rw [e, if_pos rfl]
  · show (swapL d l i j).getD k d = l.getD k d
    rw [e, if_neg h2, if_neg h1]
theorem set_perm' (d : α) (l : List α) (i : Nat) (v : α) (h : i < l.length) : (l.getD i d :: l.set i v).Perm (v :: l) := by
  have hg : l.getD i d = l[i] := by simp [List.getD, h]
  rw [hg]
  induction l generalizing i with
  | nil => exact absurd h (by simp)
  | cons x r ih =>
    cases i with
    | zero => exact List.Perm.swap _ _ _
    | succ i =>
      have hr : i < r.length := by simpa using h
      have := ih i hr (by simp [List.getD, hr])
      simp only [List.getElem_cons_succ, List.set_cons_succ]
      exact (List.Perm.swap _ _ _).trans ((this.cons x).trans (List.Perm.swap _ _ _))
theorem swapL_perm (d : α) (l : List α) {i j : Nat} (hi : i < l.length) (hj : j < l.length) : (swapL d l i j).Perm l := by
  unfold swapL
  by_cases e : i = j
  · subst e
    have h1 := set_perm' d (l.set i (l.getD i d)) i (l.getD i d) (by rw [List.length_set]; exact hi)
    have h2 := set_perm' d l i (l.getD i d) hi
    rw [getD_set' _ _ _ _ _ hi, if_pos rfl] at h1
    exact (h1.cons_inv).trans h2.cons_inv
  · have h1 := set_perm' d (l.set i (l.getD j d)) j (l.getD i d) (by rw [List.length_set]; exact hj)
    rw [getD_set' _ _ _ _ _ hi, if_neg (fun h : j = i => e h.symm)] at h1
    have h2 := set_perm' d l i (l.getD j d) hi
    exact (h1.trans h2).cons_inv
/-- one that the heap gives first, the rest emptied on: a list in order. -/
def HeapL (lt : α → α → Prop) (d : α) (l : List α) : Prop := HeapF lt (fun k => l.getD k d) l.length
theorem heap_head (hO : Slo lt) {d : α} {l : List α} (h : HeapL lt d l) : ∀ y ∈ l, ¬ lt y (l.getD 0 d) := fun y hy => by
  obtain ⟨k, hk, rfl⟩ := List.getElem_of_mem hy
  have := heap_root hO h k hk
  have e : l[k] = l.getD k d := by simp [List.getD, hk]
  rw [e]
  exact this
end

/-! ### by time, then by number -/
def ltT (a b : Tu) : Prop := a.tm < b.tm ∨ a.tm = b.tm ∧ a.aid < b.aid
instance (a b : Tu) : Decidable (ltT a b) := by unfold ltT; exact inferInstance
theorem ltT_slo : Slo ltT := ⟨fun a => by unfold ltT; omega, fun a b c => by unfold ltT; omega, fun a b c => by unfold ltT; omega⟩
theorem ltT_not (a b : Tu) : ¬ ltT a b ↔ leT b a := by unfold ltT leT; omega
end Go.Proofs.YtkmblmnffnhpmaaDoor
