/-
  THE REFERENCE'S turns: each call of whatever station, whatever number, in one; what stays of the list.
-/
import Derived.Test.YtkmblmnffnhpmaaDoorSchedA
namespace Go.Proofs.YtkmblmnffnhpmaaDoor
open Go.ChangeShapes Go.WideShapes Go.ChangeAt Go.RowKit Go.Deep
set_option linter.unusedVariables false
set_option linter.unusedSimpArgs false

def actOf (l : List Tu) (t : Tu) (on : Bool) : Tu :=
  if on = true ∧ t.on = false then
    match orderT [] l with
    | [] => { t with on := true }
    | y :: _ => { t with tm := max t.tm y.tm, on := true }
  else { t with on := on }
def actT (l : List Tu) (a : Int) (on : Bool) : List Tu × Nat := if hasT l a = true then (l.set (fiT l a) (actOf l (l.getD (fiT l a) tu0) on), 0) else (l, 107)
theorem wt_nat {n : Int} (h : wtT n = true) : ∃ k : Nat, n = (k : Int) := by
  unfold wtT at h
  simp only [Bool.and_eq_true, decide_eq_true_eq] at h
  exact ⟨n.toNat, by omega⟩
theorem aid_nat {n : Int} (h : aidT n = true) : ∃ k : Nat, n = (k : Int) := by
  unfold aidT at h
  simp only [Bool.and_eq_true, decide_eq_true_eq] at h
  exact ⟨n.toNat, by omega⟩
theorem air_nat {n : Int} (h : airT n = true) : ∃ k : Nat, n = (k : Int) := by
  unfold airT at h
  simp only [Bool.and_eq_true, decide_eq_true_eq] at h
  exact ⟨n.toNat, by omega⟩
section
variable {B gr : Nat} {v : Value} {l : List Tu} {w : World}
theorem refadd_t (x : IsRs B w gr v l) (hl : l.length ≤ 1000) (hB : B ≤ w.heap.size) (a n : Int) :
    Calls Tryd.prog 14 #[.pointer (some ⟨gr, 0, none⟩), .int .i64 a, .int .i64 n] w fun r w' => r = .returned (.int .i64 ((addT l a n).2 : Nat)) ∧ RsE B gr v (addT l a n).1 w w' := by
  unfold addT
  by_cases h : aidT a = true ∧ wtT n = true
  · rw [if_pos h]
    obtain ⟨a, rfl⟩ := aid_nat h.1
    obtain ⟨n, rfl⟩ := wt_nat h.2
    cases hh : hasT l (a : Int) with
    | true =>
      obtain ⟨A, c, rfl, hr, hc⟩ := x.row (by omega)
      rw [if_pos rfl]
      exact (refadd_twice gr A c l a n w x.slot hr h.1 h.2 hh).mono fun _ _ ⟨h1, h2⟩ => ⟨h1, h2 ▸ x.same⟩
    | false =>
      rw [if_neg (by simp)]
      exact refadd_in B gr v l a n w x hl hB h.1 h.2 hh
  · rw [if_neg h]
    exact (refadd_no gr a n w (bools2 h)).mono fun _ _ ⟨h1, h2⟩ => ⟨h1, h2 ▸ x.same⟩
theorem refdel_t (x : IsRs B w gr v l) (hl : l.length ≤ 1000) (hB : B ≤ w.heap.size) (a : Int) :
    Calls Tryd.prog 16 #[.pointer (some ⟨gr, 0, none⟩), .int .i64 a] w fun r w' => r = .returned (.int .i64 ((delT l a).2 : Nat)) ∧ RsE B gr v (delT l a).1 w w' := by
  unfold delT
  cases hh : hasT l a with
  | true =>
    rw [if_pos rfl]
    exact refdel_in B gr v l a w x hl hB hh
  | false =>
    obtain ⟨A, c, rfl, hr, hc⟩ := x.row (by omega)
    rw [if_neg (by simp)]
    exact (refdel_none gr A c l a w x.slot hr hh).mono fun _ _ ⟨h1, h2⟩ => ⟨h1, h2 ▸ x.same⟩
theorem refweigh_t (x : IsRs B w gr v l) (hl : l.length ≤ 1000) (a n : Int) :
    Calls Tryd.prog 18 #[.pointer (some ⟨gr, 0, none⟩), .int .i64 a, .int .i64 n] w fun r w' => r = .returned (.int .i64 ((weighT l a n).2 : Nat)) ∧ RsE B gr v (weighT l a n).1 w w' := by
  unfold weighT
  cases hh : hasT l a with
  | true =>
    rw [if_pos rfl]
    by_cases hn : wtT n = true
    · rw [if_pos hn]
      obtain ⟨n, rfl⟩ := wt_nat hn
      exact refweigh_in B gr v l a n w x hl hh hn
    · rw [if_neg hn]
      obtain ⟨A, c, rfl, hr, hc⟩ := x.row (by omega)
      exact (refweigh_range gr A c l a n w x.slot hr hh (by simpa using hn)).mono fun _ _ ⟨h1, h2⟩ => ⟨h1, h2 ▸ x.same⟩
  | false =>
    obtain ⟨A, c, rfl, hr, hc⟩ := x.row (by omega)
    rw [if_neg (by simp)]
    exact (refweigh_none gr A c l a n w x.slot hr hh).mono fun _ _ ⟨h1, h2⟩ => ⟨h1, h2 ▸ x.same⟩
theorem refcharge_t (x : IsRs B w gr v l) (hi : InvT l) (hl : l.length ≤ 1000) (a n : Int) :
    Calls Tryd.prog 22 #[.pointer (some ⟨gr, 0, none⟩), .int .i64 a, .int .i64 n] w fun r w' => r = .returned (.int .i64 ((chT l a n).2 : Nat)) ∧ RsE B gr v (chT l a n).1 w w' := by
  unfold chT
  cases hh : hasT l a with
  | true =>
    rw [if_pos rfl]
    by_cases hn : airT n = true
    · rw [if_pos hn]
      obtain ⟨n, rfl⟩ := air_nat hn
      exact refcharge_in B gr v l a n w x hi hl hh hn
    · rw [if_neg hn]
      obtain ⟨A, c, rfl, hr, hc⟩ := x.row (by omega)
      exact (refcharge_range gr A c l a n w x.slot hr hh (by simpa using hn)).mono fun _ _ ⟨h1, h2⟩ => ⟨h1, h2 ▸ x.same⟩
  | false =>
    obtain ⟨A, c, rfl, hr, hc⟩ := x.row (by omega)
    rw [if_neg (by simp)]
    exact (refcharge_none gr A c l a n w x.slot hr hh).mono fun _ _ ⟨h1, h2⟩ => ⟨h1, h2 ▸ x.same⟩
theorem refactive_t (x : IsRs B w gr v l) (hi : InvT l) (hl : l.length ≤ 1000) (hB : B ≤ w.heap.size) (a : Int) (on : Bool) :
    Calls Tryd.prog 20 #[.pointer (some ⟨gr, 0, none⟩), .int .i64 a, .bool on] w fun r w' => r = .returned (.int .i64 ((actT l a on).2 : Nat)) ∧ RsE B gr v (actT l a on).1 w w' := by
  unfold actT
  cases hh : hasT l a with
  | true =>
    rw [if_pos rfl]
    by_cases ho : on = true ∧ (l.getD (fiT l a) tu0).on = false
    · obtain ⟨h1, h2⟩ := ho
      subst h1
      cases he : orderT [] l with
      | nil =>
        have e : actOf l (l.getD (fiT l a) tu0) true = { l.getD (fiT l a) tu0 with on := true } := by unfold actOf; rw [if_pos ⟨rfl, h2⟩, he]
        rw [e]
        exact refactive_first B gr v l a w x hl hB hh h2 he
      | cons y rest =>
        have e : actOf l (l.getD (fiT l a) tu0) true = { l.getD (fiT l a) tu0 with tm := max (l.getD (fiT l a) tu0).tm y.tm, on := true } := by unfold actOf; rw [if_pos ⟨rfl, h2⟩, he]
        rw [e]
        exact refactive_next B gr v l a y rest w x hi hl hB hh h2 he
    · have e : actOf l (l.getD (fiT l a) tu0) on = { l.getD (fiT l a) tu0 with on := on } := by unfold actOf; rw [if_neg ho]
      rw [e]
      refine refactive_plain B gr v l a on w x hl hh ?_
      cases on with
      | false => exact .inl rfl
      | true =>
        refine .inr ?_
        cases hq : (l.getD (fiT l a) tu0).on with
        | true => rfl
        | false => exact absurd ⟨rfl, hq⟩ ho
  | false =>
    obtain ⟨A, c, rfl, hr, hc⟩ := x.row (by omega)
    rw [if_neg (by simp)]
    exact (refactive_none gr A c l a on w x.slot hr hh).mono fun _ _ ⟨h1, h2⟩ => ⟨h1, h2 ▸ x.same⟩
end

/-! ### what stays of the list -/
theorem set_ok {l : List Tu} (hi : InvT l) {k : Nat} {t : Tu} (hk : k < l.length) (ht : OkT t) (ha : t.aid = (l.getD k tu0).aid) : InvT (l.set k t) := by
  refine ⟨fun u hu => ?_, ?_⟩
  · rcases List.mem_or_eq_of_mem_set hu with h | h
    · exact hi.ok u h
    · rw [h]; exact ht
  · have e : (l.set k t).map Tu.aid = l.map Tu.aid := by
      rw [List.map_set, ha]
      have e2 : (l.getD k tu0).aid = (l.map Tu.aid)[k]'(by simpa using hk) := by simp [List.getD, hk]
      rw [e2, List.set_getElem_self]
    rw [e]
    exact hi.nd
theorem tm_le {l : List Tu} (hi : InvT l) {y : Tu} {r : List Tu} (h : orderT [] l = y :: r) : y.tm ≤ 1152921504606846976 := (hi.ok y (order_mem h)).tm
theorem actOf_aid (l : List Tu) (t : Tu) (on : Bool) : (actOf l t on).aid = t.aid := by
  unfold actOf
  split
  · split <;> rfl
  · rfl
theorem inv_act {l : List Tu} (hi : InvT l) (a : Int) (on : Bool) : InvT (actT l a on).1 := by
  unfold actT
  split
  · rename_i h
    have hk := has_lt h
    have ht := okT_at hi hk
    refine set_ok hi hk ?_ (actOf_aid _ _ _)
    unfold actOf
    split
    · split
      · exact ⟨ht.aid, ht.wt, ht.tm⟩
      · rename_i y r e
        exact ⟨ht.aid, ht.wt, Nat.max_le.2 ⟨ht.tm, tm_le hi e⟩⟩
    · exact ⟨ht.aid, ht.wt, ht.tm⟩
  · exact hi
theorem inv_ch {l : List Tu} (hi : InvT l) (a n : Int) : InvT (chT l a n).1 := by
  unfold chT
  split
  · rename_i h
    have hk := has_lt h
    have ht := okT_at hi hk
    split
    · exact set_ok hi hk ⟨ht.aid, ht.wt, Nat.min_le_right _ _⟩ rfl
    · exact hi
  · exact hi
theorem inv_weigh {l : List Tu} (hi : InvT l) (a n : Int) : InvT (weighT l a n).1 := by
  unfold weighT
  split
  · rename_i h
    have hk := has_lt h
    have ht := okT_at hi hk
    split
    · rename_i hn
      unfold wtT at hn
      simp only [Bool.and_eq_true, decide_eq_true_eq] at hn
      exact set_ok hi hk ⟨ht.aid, ⟨by show 1 ≤ n.toNat; omega, by show n.toNat ≤ 100; omega⟩, ht.tm⟩ rfl
    · exact hi
  · exact hi
theorem inv_del {l : List Tu} (hi : InvT l) (a : Int) : InvT (delT l a).1 := by
  unfold delT
  split
  · have e : l.take (fiT l a) ++ l.drop (fiT l a + 1) = l.eraseIdx (fiT l a) := (List.eraseIdx_eq_take_drop_succ _ _).symm
    show InvT (l.take (fiT l a) ++ l.drop (fiT l a + 1))
    rw [e]
    have hs := List.eraseIdx_sublist l (fiT l a)
    exact ⟨fun u hu => hi.ok u (hs.subset hu), List.Nodup.sublist (hs.map Tu.aid) hi.nd⟩
  · exact hi
theorem has_iff {l : List Tu} {a : Int} : hasT l a = true ↔ ∃ t ∈ l, ((t.aid : Nat) : Int) = a := by
  constructor
  · intro h
    have hk := has_lt h
    refine ⟨l.getD (fiT l a) tu0, ?_, fiT_at hk⟩
    have e : l.getD (fiT l a) tu0 = l[fiT l a] := by simp [List.getD, hk]
    rw [e]
    exact List.getElem_mem hk
  · rintro ⟨t, ht, e⟩
    cases h : hasT l a with
    | true => rfl
    | false =>
      exfalso
      obtain ⟨i, hil, rfl⟩ := List.getElem_of_mem ht
      have h2 : ¬ fiT l a < l.length := by unfold hasT at h; simpa using h
      have e1 : l.getD i tu0 = l[i] := by simp [List.getD, hil]
      refine fiT_not (l := l) (a := a) (k := i) (by omega) ?_
      rw [e1]
      exact e
theorem inv_add {l : List Tu} (hi : InvT l) (a n : Int) : InvT (addT l a n).1 := by
  unfold addT
  split
  · rename_i h
    split
    · exact hi
    · rename_i hh
      have h1 := h.1
      have h2 := h.2
      unfold aidT at h1
      unfold wtT at h2
      simp only [Bool.and_eq_true, decide_eq_true_eq] at h1 h2
      refine ⟨fun u hu => ?_, ?_⟩
      · rcases List.mem_append.1 hu with hu | hu
        · exact hi.ok u hu
        · rw [List.mem_singleton.1 hu]
          exact ⟨⟨by show 1 ≤ a.toNat; omega, by show a.toNat ≤ 16; omega⟩, ⟨by show 1 ≤ n.toNat; omega, by show n.toNat ≤ 100; omega⟩, Nat.zero_le _⟩
      · show ((l ++ [(⟨a.toNat, n.toNat, 0, false⟩ : Tu)]).map Tu.aid).Nodup
        rw [List.map_append, List.nodup_append]
        refine ⟨hi.nd, List.nodup_cons.2 ⟨by simp, List.nodup_nil⟩, fun x hx y hy e => ?_⟩
        obtain ⟨t, ht, rfl⟩ := List.mem_map.1 hx
        have hy' : y = a.toNat := by simpa using hy
        apply hh
        exact has_iff.2 ⟨t, ht, by rw [e, hy']; omega⟩
  · exact hi
theorem inv_nil : InvT [] := ⟨fun t ht => (by cases ht), List.nodup_nil⟩
theorem len_add (l : List Tu) (a n : Int) : (addT l a n).1.length ≤ l.length + 1 := by
  unfold addT
  split
  · split
    · exact Nat.le_succ _
    · show (l ++ [(⟨a.toNat, n.toNat, 0, false⟩ : Tu)]).length ≤ _; simp
  · exact Nat.le_succ _
theorem len_del (l : List Tu) (a : Int) : (delT l a).1.length ≤ l.length := by
  unfold delT
  split
  · show (l.take (fiT l a) ++ l.drop (fiT l a + 1)).length ≤ _; rw [List.length_append, List.length_take, List.length_drop]; omega
  · exact Nat.le_refl _
theorem len_weigh (l : List Tu) (a n : Int) : (weighT l a n).1.length = l.length := by
  unfold weighT
  split
  · split
    · exact List.length_set
    · rfl
  · rfl
theorem len_ch (l : List Tu) (a n : Int) : (chT l a n).1.length = l.length := by
  unfold chT
  split
  · split
    · exact List.length_set
    · rfl
  · rfl
theorem len_act (l : List Tu) (a : Int) (on : Bool) : (actT l a on).1.length = l.length := by
  unfold actT
  split
  · exact List.length_set
  · rfl
end Go.Proofs.YtkmblmnffnhpmaaDoor
