/-
  MATHS OF sched: those of least time are charged in their turn: none is charged more for its weight than another one (SchedFair). No program is named.
-/
namespace Go.Proofs.YtkmblmnffnhpmaaDoor
set_option linter.unusedVariables false
set_option linter.unusedSimpArgs false

/-- weights, what each was charged, its time; t turns. -/
structure FairS (n : Nat) (w got T : Nat → Nat) (t : Nat) : Prop where
  near : ∀ i k, i < n → k < n → w i * T i ≤ w i * T k + 50000000
  lo : ∀ i, i < n → w i * T i ≤ 10000 * got i
  hi : ∀ i, i < n → 10000 * got i ≤ w i * T i + w i * t
theorem fairS_zero (n : Nat) (w : Nat → Nat) : FairS n w (fun _ => 0) (fun _ => 0) 0 := ⟨fun i k _ _ => by simp, fun i _ => by simp, fun i _ => by simp⟩
def addAt (f : Nat → Nat) (o v : Nat) : Nat → Nat := fun i => if i = o then f i + v else f i
theorem addAt_same (f : Nat → Nat) (o v : Nat) : addAt f o v o = f o + v := if_pos rfl
theorem addAt_ne {f : Nat → Nat} {o v i : Nat} (h : i ≠ o) : addAt f o v i = f i := if_neg h
theorem fairS_step {n : Nat} {w got T : Nat → Nat} {t o air : Nat} (h : FairS n w got T t) (ho : o < n) (hl : ∀ k, k < n → T o ≤ T k) (hw : 0 < w o) (ha : air ≤ 5000) : FairS n w (addAt got o air) (addAt T o (10000 * air / w o)) (t + 1) := by
  have hq : w o * (10000 * air / w o) ≤ 10000 * air := Nat.mul_div_le _ _
  have hr : 10000 * air < w o * (10000 * air / w o) + w o := by
    have h1 := Nat.div_add_mod (10000 * air) (w o)
    have h2 := Nat.mod_lt (10000 * air) hw
    omega
  obtain ⟨q, hq0⟩ : ∃ q, q = 10000 * air / w o := ⟨_, rfl⟩
  rw [← hq0] at hq hr ⊢
  clear hq0
  refine ⟨fun i k hi hk => ?_, fun i hi => ?_, fun i hi => ?_⟩
  · by_cases ei : i = o
    · subst ei
      rw [addAt_same, Nat.mul_add]
      by_cases ek : k = i
      · subst ek
        rw [addAt_same, Nat.mul_add]
        omega
      · rw [addAt_ne ek]
        have := Nat.mul_le_mul_left (w i) (hl k hk)
        omega
    · rw [addAt_ne ei]
      have := h.near i k hi hk
      by_cases ek : k = o
      · subst ek
        rw [addAt_same, Nat.mul_add]
        omega
      · rw [addAt_ne ek]
        exact this
  · by_cases ei : i = o
    · subst ei
      rw [addAt_same, addAt_same, Nat.mul_add]
      have := h.lo i hi
      omega
    · rw [addAt_ne ei, addAt_ne ei]
      exact h.lo i hi
  · by_cases ei : i = o
    · subst ei
      rw [addAt_same, addAt_same, Nat.mul_add, Nat.mul_add, Nat.mul_add, Nat.mul_one]
      have := h.hi i hi
      omega
    · rw [addAt_ne ei, addAt_ne ei, Nat.mul_add]
      have := h.hi i hi
      omega
/-- the time that is charged is within the greatest there may be. -/
theorem fairS_le {n : Nat} {w got T : Nat → Nat} {t i : Nat} (h : FairS n w got T t) (hi : i < n) (hw : 0 < w i) (hg : got i ≤ 5000 * t) : T i ≤ 50000000 * t := by
  have h1 := h.lo i hi
  have h2 : 1 * T i ≤ w i * T i := Nat.mul_le_mul_right _ hw
  omega
theorem fairS_end {n : Nat} {w got T : Nat → Nat} {t i k : Nat} (h : FairS n w got T t) (hi : i < n) (hk : k < n) : got i * w k ≤ got k * w i + 5000 * w k + t * w i * w k / 10000 := by
  have h1 := Nat.mul_le_mul_right (w k) (h.hi i hi)
  have h2 := Nat.mul_le_mul_right (w k) (h.near i k hi hk)
  have h3 := Nat.mul_le_mul_left (w i) (h.lo k hk)
  have e1 : w i * T k * w k = w i * (w k * T k) := by rw [Nat.mul_assoc, Nat.mul_comm (T k)]
  have e2 : w i * t * w k = t * w i * w k := by rw [Nat.mul_comm (w i) t]
  have e3 : w i * (10000 * got k) = 10000 * (got k * w i) := by rw [Nat.mul_left_comm, Nat.mul_comm (w i)]
  have e4 : 10000 * got i * w k = 10000 * (got i * w k) := Nat.mul_assoc _ _ _
  rw [Nat.add_mul] at h1 h2
  rw [e4, e2] at h1
  rw [e1] at h2
  rw [e3] at h3
  generalize got i * w k = A at *
  generalize got k * w i = B at *
  generalize t * w i * w k = D at *
  generalize w i * (w k * T k) = X at *
  generalize w i * T i * w k = Y at *
  generalize w k = C at *
  omega

/-! ### the order: by time, then by number -/
structure Tu where
  aid : Nat
  wt : Nat
  tm : Nat
  on : Bool
def leT (a b : Tu) : Prop := a.tm < b.tm ∨ a.tm = b.tm ∧ a.aid ≤ b.aid
instance (a b : Tu) : Decidable (leT a b) := by unfold leT; exact inferInstance
theorem leT_total (a b : Tu) : leT a b ∨ leT b a := by unfold leT; omega
theorem leT_trans {a b c : Tu} (h1 : leT a b) (h2 : leT b c) : leT a c := by unfold leT at *; omega
theorem leT_refl (a : Tu) : leT a a := .inr ⟨rfl, Nat.le_refl _⟩
theorem leT_aid {a b : Tu} (h1 : leT a b) (h2 : leT b a) : a.aid = b.aid := by unfold leT at *; omega
/-- where one comes in: behind all that are not above it. -/
def putT (l : List Tu) (t : Tu) : List Tu := l.takeWhile (fun x => decide (leT x t)) ++ t :: l.dropWhile (fun x => decide (leT x t))
def orderT : List Tu → List Tu → List Tu
  | acc, [] => acc
  | acc, t :: r => orderT (if t.on = true then putT acc t else acc) r
theorem putT_perm (l : List Tu) (t : Tu) : (putT l t).Perm (t :: l) := by
  unfold putT
  refine List.perm_middle.trans ?_
  rw [List.takeWhile_append_dropWhile]
theorem putT_sorted {l : List Tu} {t : Tu} (h : l.Pairwise leT) : (putT l t).Pairwise leT := by
  unfold putT
  induction l with
  | nil => exact List.pairwise_singleton _ _
  | cons x r ih =>
    rw [List.pairwise_cons] at h
    by_cases hx : leT x t
    · rw [List.takeWhile_cons_of_pos (by simpa using hx), List.dropWhile_cons_of_pos (by simpa using hx), List.cons_append, List.pairwise_cons]
      refine ⟨fun y hy => ?_, ih h.2⟩
      have hy2 : y ∈ t :: r := (putT_perm r t).mem_iff.1 hy
      rcases List.mem_cons.1 hy2 with rfl | hy2
      · exact hx
      · exact h.1 y hy2
    · rw [List.takeWhile_cons_of_neg (by simpa using hx), List.dropWhile_cons_of_neg (by simpa using hx), List.nil_append, List.pairwise_cons]
      have ht : leT t x := (leT_total t x).resolve_right hx
      refine ⟨fun y hy => ?_, List.pairwise_cons.2 h⟩
      rcases List.mem_cons.1 hy with rfl | hy2
      · exact ht
      · exact leT_trans ht (h.1 y hy2)
theorem orderT_perm : ∀ (l acc : List Tu), (orderT acc l).Perm (acc ++ l.filter fun t => t.on)
  | [], acc => by rw [List.filter_nil, List.append_nil]; exact List.Perm.refl _
  | t :: r, acc => by
    show (orderT (if t.on = true then putT acc t else acc) r).Perm _
    refine (orderT_perm r _).trans ?_
    cases h : t.on with
    | true =>
      rw [if_pos rfl, List.filter_cons, if_pos h]
      refine ((putT_perm acc t).append_right _).trans ?_
      exact List.perm_middle.symm
    | false =>
      rw [if_neg (by simp), List.filter_cons, if_neg (by rw [h]; simp)]
theorem orderT_sorted : ∀ (l acc : List Tu), acc.Pairwise leT → (orderT acc l).Pairwise leT
  | [], acc, h => h
  | t :: r, acc, h => by
    show (orderT (if t.on = true then putT acc t else acc) r).Pairwise leT
    refine orderT_sorted r _ ?_
    split
    · exact putT_sorted h
    · exact h
/-- two lists in order, of the same, no number twice: one list. -/
theorem sorted_one : ∀ {a b : List Tu}, a.Pairwise leT → b.Pairwise leT → a.Perm b → (a.map Tu.aid).Nodup → a = b
  | [], b, _, _, hp, _ => (List.nil_perm.1 hp).symm
  | x :: r, b, ha, hb, hp, hn => by
    cases b with
    | nil => exact absurd hp.length_eq (by simp)
    | cons y s =>
      rw [List.pairwise_cons] at ha hb
      have hxy : x = y := by
        have hx : x ∈ y :: s := hp.mem_iff.1 List.mem_cons_self
        have hy : y ∈ x :: r := hp.mem_iff.2 List.mem_cons_self
        rcases List.mem_cons.1 hy with e | hy2
        · exact e.symm
        · rcases List.mem_cons.1 hx with e | hx2
          · exact e
          · have e := leT_aid (ha.1 y hy2) (hb.1 x hx2)
            rw [List.map_cons, List.nodup_cons] at hn
            exact absurd (List.mem_map.2 ⟨y, hy2, e.symm⟩) hn.1
      subst hxy
      rw [List.map_cons, List.nodup_cons] at hn
      rw [sorted_one ha.2 hb.2 hp.cons_inv hn.2]
end Go.Proofs.YtkmblmnffnhpmaaDoor
