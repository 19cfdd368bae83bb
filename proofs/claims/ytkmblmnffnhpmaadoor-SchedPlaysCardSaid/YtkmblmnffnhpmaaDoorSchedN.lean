/-
  MATHS OF SchedOrder: stations 1 to n, some of them on, each with its time; who stands in the order. No program is named.
-/
import Derived.Test.YtkmblmnffnhpmaaDoorSchedB
namespace Go.Proofs.YtkmblmnffnhpmaaDoor
set_option linter.unusedVariables false
set_option linter.unusedSimpArgs false

/-! ### the order of a list -/
def ordN (l : List Tu) : List Tu := orderT [] l
theorem ordN_perm (l : List Tu) : (ordN l).Perm (l.filter fun t => t.on) := by
  have := orderT_perm l []
  rw [List.nil_append] at this
  exact this
theorem ordN_sorted (l : List Tu) : (ordN l).Pairwise leT := orderT_sorted l [] List.Pairwise.nil
theorem ordN_len (l : List Tu) : (ordN l).length = (l.filter fun t => t.on).length := (ordN_perm l).length_eq
theorem ordN_mem {l : List Tu} {t : Tu} : t ∈ ordN l ↔ t ∈ l ∧ t.on = true := by rw [(ordN_perm l).mem_iff, List.mem_filter]
theorem ordN_at {l : List Tu} {i : Nat} (h : i < (ordN l).length) : (ordN l).getD i tu0 ∈ l ∧ ((ordN l).getD i tu0).on = true := by
  have e : (ordN l).getD i tu0 = (ordN l)[i] := by simp [List.getD, h]
  rw [e]
  exact ordN_mem.1 (List.getElem_mem h)
theorem ordN_next {l : List Tu} {i : Nat} (h : i + 1 < (ordN l).length) : leT ((ordN l).getD i tu0) ((ordN l).getD (i + 1) tu0) := by
  have e : (ordN l).getD i tu0 = (ordN l)[i]'(by omega) := by simp [List.getD, show i < (ordN l).length by omega]
  have e2 : (ordN l).getD (i + 1) tu0 = (ordN l)[i + 1] := by simp [List.getD, h]
  rw [e, e2]
  exact List.pairwise_iff_getElem.1 (ordN_sorted l) i (i + 1) (by omega) h (by omega)
theorem ordN_nodup {l : List Tu} (hi : InvT l) : ((ordN l).map Tu.aid).Nodup := by
  have h1 : ((l.filter fun t => t.on).map Tu.aid).Nodup := List.Nodup.sublist (List.filter_sublist.map _) hi.nd
  exact ((ordN_perm l).map Tu.aid).nodup_iff.2 h1
/-! ### stations 1 to k -/
def mkT (b : Nat → Bool) (T : Nat → Nat) (k : Nat) : List Tu := (List.range k).map fun i => ⟨i + 1, 50, T i, b i⟩
theorem mk_len (b : Nat → Bool) (T : Nat → Nat) (k : Nat) : (mkT b T k).length = k := by unfold mkT; simp
theorem mk_at (b : Nat → Bool) (T : Nat → Nat) {k i : Nat} (h : i < k) : (mkT b T k).getD i tu0 = ⟨i + 1, 50, T i, b i⟩ := by unfold mkT; simp [List.getD, h]
theorem mk_el (b : Nat → Bool) (T : Nat → Nat) {k j : Nat} (h : j < (mkT b T k).length) : (mkT b T k)[j] = ⟨j + 1, 50, T j, b j⟩ := by
  have h2 : j < k := by rw [mk_len] at h; exact h
  have e := mk_at b T h2
  have e2 : (mkT b T k).getD j tu0 = (mkT b T k)[j] := by simp [List.getD, h]
  rw [← e2, e]
theorem mk_next (b : Nat → Bool) (T : Nat → Nat) (k : Nat) : mkT b T (k + 1) = mkT b T k ++ [⟨k + 1, 50, T k, b k⟩] := by unfold mkT; rw [List.range_succ, List.map_append]; rfl
theorem mk_fi (b : Nat → Bool) (T : Nat → Nat) {k i : Nat} (h : i < k) : fiT (mkT b T k) ((i + 1 : Nat) : Int) = i :=
  fiT_is (by rw [mk_len]; exact h) (by rw [mk_at b T h]) fun j hj => by rw [mk_at b T (by omega)]; show ¬ ((j + 1 : Nat) : Int) = ((i + 1 : Nat) : Int); omega
theorem mk_has (b : Nat → Bool) (T : Nat → Nat) {k i : Nat} (h : i < k) : hasT (mkT b T k) ((i + 1 : Nat) : Int) = true := by unfold hasT; rw [mk_fi b T h, mk_len]; simpa using h
theorem mk_not (b : Nat → Bool) (T : Nat → Nat) (k : Nat) {a : Int} (h : ∀ i, i < k → ¬ ((i + 1 : Nat) : Int) = a) : hasT (mkT b T k) a = false :=
  fiT_none fun i hi => by
    rw [mk_len] at hi
    rw [mk_at b T hi]
    exact h i hi
/-- one comes. -/
theorem mk_add (b : Nat → Bool) (T : Nat → Nat) {k : Nat} (hk : k < 16) : addT (mkT b T k) ((k + 1 : Nat) : Int) 50 = (mkT b T k ++ [⟨k + 1, 50, 0, false⟩], 0) := by
  unfold addT
  rw [if_pos ⟨by unfold aidT; simp; omega, rfl⟩, mk_not b T k (fun i hi => by omega), if_neg (by simp), Int.toNat_natCast]
  rfl
theorem snoc_fi (b : Nat → Bool) (T : Nat → Nat) (k : Nat) : fiT (mkT b T k ++ [⟨k + 1, 50, 0, false⟩]) ((k + 1 : Nat) : Int) = k := by
  have hl : (mkT b T k ++ [(⟨k + 1, 50, 0, false⟩ : Tu)]).length = k + 1 := by rw [List.length_append, mk_len]; rfl
  refine fiT_is (by rw [hl]; omega) ?_ fun j hj => ?_
  · simp [List.getD, List.getElem?_append_right (show (mkT b T k).length ≤ k by rw [mk_len]; exact Nat.le_refl _), mk_len]
  · have e : (mkT b T k ++ [(⟨k + 1, 50, 0, false⟩ : Tu)]).getD j tu0 = (mkT b T k).getD j tu0 := by
      simp [List.getD, List.getElem?_append_left (show j < (mkT b T k).length by rw [mk_len]; exact hj)]
    rw [e, mk_at b T hj]
    show ¬ ((j + 1 : Nat) : Int) = ((k + 1 : Nat) : Int)
    omega
/-- it becomes active or not: at the time 0, where all are. -/
theorem mk_act (b : Nat → Bool) (k : Nat) : actT (mkT b (fun _ => 0) k ++ [⟨k + 1, 50, 0, false⟩]) ((k + 1 : Nat) : Int) (b k) = (mkT b (fun _ => 0) (k + 1), 0) := by
  have hf := snoc_fi b (fun _ => 0) k
  have hl : (mkT b (fun _ => 0) k ++ [(⟨k + 1, 50, 0, false⟩ : Tu)]).length = k + 1 := by rw [List.length_append, mk_len]; rfl
  have hh : hasT (mkT b (fun _ => 0) k ++ [(⟨k + 1, 50, 0, false⟩ : Tu)]) ((k + 1 : Nat) : Int) = true := by unfold hasT; rw [hf, hl]; simp
  have hg : (mkT b (fun _ => 0) k ++ [(⟨k + 1, 50, 0, false⟩ : Tu)]).getD k tu0 = ⟨k + 1, 50, 0, false⟩ := by
    simp [List.getD, List.getElem?_append_right (show (mkT b (fun _ => 0) k).length ≤ k by rw [mk_len]; exact Nat.le_refl _), mk_len]
  have ha : actOf (mkT b (fun _ => 0) k ++ [(⟨k + 1, 50, 0, false⟩ : Tu)]) ⟨k + 1, 50, 0, false⟩ (b k) = ⟨k + 1, 50, 0, b k⟩ := by
    unfold actOf
    cases hb : b k with
    | false => rw [if_neg (by simp)]
    | true =>
      rw [if_pos ⟨rfl, rfl⟩]
      split
      · rfl
      · rename_i y r e
        have hy := order_mem e
        have h0 : y.tm = 0 := by
          rcases List.mem_append.1 hy with h | h
          · unfold mkT at h
            obtain ⟨i, -, rfl⟩ := List.mem_map.1 h
            rfl
          · rw [List.mem_singleton.1 h]
        show (⟨k + 1, 50, max 0 y.tm, true⟩ : Tu) = _
        rw [h0]
        rfl
  unfold actT
  rw [if_pos hh, hf, hg, ha, mk_next]
  congr 1
  rw [List.set_append_right _ _ (by rw [mk_len]; exact Nat.le_refl _), mk_len, Nat.sub_self]
  rfl
/-- one is charged. -/
theorem mk_ch (b : Nat → Bool) (T : Nat → Nat) {k i n : Nat} (hi : i < k) (hn : n < 5000) (hT : T i = 0) : chT (mkT b T k) ((i + 1 : Nat) : Int) (n : Int) = (mkT b (fun j => if j = i then 200 * n else T j) k, 0) := by
  unfold chT
  rw [if_pos (mk_has b T hi), if_pos (by unfold airT; simp; omega), mk_fi b T hi, mk_at b T hi, Int.toNat_natCast]
  congr 1
  have e : tmT ⟨i + 1, 50, T i, b i⟩ n = 200 * n := by unfold tmT; rw [hT]; show min (0 + 10000 * n / 50) _ = _; omega
  rw [e]
  refine List.ext_getElem (by rw [List.length_set, mk_len, mk_len]) fun j h1 h2 => ?_
  rw [mk_len] at h2
  rw [List.getElem_set]
  by_cases hj : i = j
  · subst hj
    rw [if_pos rfl, mk_el, if_pos rfl]
  · rw [if_neg hj, mk_el, mk_el, if_neg (fun e => hj e.symm)]
theorem mk_ok (b : Nat → Bool) (T : Nat → Nat) {k : Nat} {t : Tu} (h : t ∈ mkT b T k) : ∃ i, i < k ∧ t = ⟨i + 1, 50, T i, b i⟩ := by
  unfold mkT at h
  obtain ⟨i, hi, rfl⟩ := List.mem_map.1 h
  exact ⟨i, List.mem_range.1 hi, rfl⟩
/-- how many are on. -/
def cntB (b : Nat → Bool) (k : Nat) : Nat := ((List.range k).filter fun i => b i).length
theorem cnt_0 (b : Nat → Bool) : cntB b 0 = 0 := rfl
theorem cnt_next (b : Nat → Bool) (k : Nat) : cntB b (k + 1) = cntB b k + if b k = true then 1 else 0 := by
  unfold cntB
  rw [List.range_succ, List.filter_append, List.length_append]
  cases h : b k <;> simp [h]
theorem mk_cnt (b : Nat → Bool) (T : Nat → Nat) (k : Nat) : (ordN (mkT b T k)).length = cntB b k := by
  rw [ordN_len]
  unfold mkT cntB
  rw [List.filter_map, List.length_map]
  rfl
theorem erase_perm {α : Type} : ∀ (l : List α) (k : Nat) (h : k < l.length), (l[k] :: l.eraseIdx k).Perm l
  | [], k, h => absurd h (by simp)
  | x :: r, 0, h => List.Perm.refl _
  | x :: r, k + 1, h => by
    have := erase_perm r k (by simpa using h)
    simp only [List.getElem_cons_succ, List.eraseIdx_cons_succ]
    exact (List.Perm.swap _ _ _).trans (this.cons x)
/-- one goes: one fewer, and it is gone. -/
theorem del_on {l : List Tu} (hi : InvT l) {t : Tu} (ht : t ∈ l) (ho : t.on = true) : (ordN (delT l ((t.aid : Nat) : Int)).1).length + 1 = (ordN l).length ∧ ∀ u ∈ ordN (delT l ((t.aid : Nat) : Int)).1, u.aid ≠ t.aid := by
  have hh : hasT l ((t.aid : Nat) : Int) = true := has_iff.2 ⟨t, ht, rfl⟩
  obtain ⟨k, hk, rfl⟩ := List.getElem_of_mem ht
  have hg : l.getD k tu0 = l[k] := by simp [List.getD, hk]
  have hf : fiT l ((l[k].aid : Nat) : Int) = k := by rw [← hg]; exact fiT_mem hi hk
  have hd : (delT l ((l[k].aid : Nat) : Int)).1 = l.eraseIdx k := by
    unfold delT
    rw [if_pos hh, hf]
    exact (List.eraseIdx_eq_take_drop_succ _ _).symm
  rw [hd]
  have hp : (l[k] :: l.eraseIdx k).Perm l := erase_perm l k hk
  refine ⟨?_, fun u hu e => ?_⟩
  · rw [ordN_len, ordN_len, ← (hp.filter _).length_eq, List.filter_cons, if_pos ho]
    rfl
  · have h1 := (ordN_mem.1 hu).1
    have h2 : ((l[k] :: l.eraseIdx k).map Tu.aid).Nodup := (hp.map Tu.aid).nodup_iff.2 hi.nd
    rw [List.map_cons, List.nodup_cons] at h2
    exact h2.1 (List.mem_map.2 ⟨u, h1, e⟩)
end Go.Proofs.YtkmblmnffnhpmaaDoor
