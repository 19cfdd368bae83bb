/-
  MATHS OF sched: the arrays that a list of turns stands for; the heap's list against the list in order.
-/
import Derived.Test.YtkmblmnffnhpmaaDoorSchedN
import Derived.Test.YtkmblmnffnhpmaaDoorSchedI
namespace Go.Proofs.YtkmblmnffnhpmaaDoor
open Go.ChangeShapes Go.WideShapes Go.ChangeAt Go.RowKit Go.Deep
set_option linter.unusedVariables false
set_option linter.unusedSimpArgs false

/-! ### a list of turns as two arrays -/
def xT (l : List Tu) (k : Nat) : Int := if hasT l (k : Int) = true then (((l.getD (fiT l (k : Int)) tu0).wt : Nat) : Int) else 0
def yT (l : List Tu) (k : Nat) : Int := if hasT l (k : Int) = true then (((l.getD (fiT l (k : Int)) tu0).tm : Nat) : Int) else 0
section
variable {l l' : List Tu}
theorem lu_mem (hi : InvT l) {t : Tu} (ht : t ∈ l) : hasT l (t.aid : Int) = true ∧ l.getD (fiT l (t.aid : Int)) tu0 = t := by
  refine ⟨has_iff.2 ⟨t, ht, rfl⟩, ?_⟩
  obtain ⟨i, hil, rfl⟩ := List.getElem_of_mem ht
  have e1 : l.getD i tu0 = l[i] := by simp [List.getD, hil]
  have h := fiT_mem hi hil
  rw [e1] at h
  rw [h, e1]
theorem xT_mem (hi : InvT l) {t : Tu} (ht : t ∈ l) : xT l t.aid = (t.wt : Int) := by
  obtain ⟨h1, h2⟩ := lu_mem hi ht
  unfold xT
  rw [if_pos h1, h2]
theorem yT_mem (hi : InvT l) {t : Tu} (ht : t ∈ l) : yT l t.aid = (t.tm : Int) := by
  obtain ⟨h1, h2⟩ := lu_mem hi ht
  unfold yT
  rw [if_pos h1, h2]
theorem xT_not {k : Nat} (h : hasT l (k : Int) = false) : xT l k = 0 := by unfold xT; rw [if_neg (by simp [h])]
theorem yT_not {k : Nat} (h : hasT l (k : Int) = false) : yT l k = 0 := by unfold yT; rw [if_neg (by simp [h])]
theorem not_has {a : Int} (h : ∀ t ∈ l, ((t.aid : Nat) : Int) ≠ a) : hasT l a = false := by
  cases e : hasT l a with
  | false => rfl
  | true =>
    obtain ⟨t, ht, e2⟩ := has_iff.1 e
    exact absurd e2 (h t ht)
theorem has_out (hi : InvT l) {a : Int} (h : aidT a = false) : hasT l a = false := not_has fun t ht e => by
  have := (hi.ok t ht).aid
  unfold aidT at h
  simp only [Bool.and_eq_false_iff, decide_eq_false_iff_not] at h
  omega
theorem xy_same (hi : InvT l) (hi' : InvT l') {k : Nat} (h : ∀ t : Tu, t.aid = k → (t ∈ l ↔ t ∈ l')) : xT l k = xT l' k ∧ yT l k = yT l' k := by
  cases e : hasT l (k : Int) with
  | true =>
    obtain ⟨t, ht, e2⟩ := has_iff.1 e
    have e3 : t.aid = k := by omega
    have ht' := (h t e3).1 ht
    rw [← e3]
    exact ⟨(xT_mem hi ht).trans (xT_mem hi' ht').symm, (yT_mem hi ht).trans (yT_mem hi' ht').symm⟩
  | false =>
    have e' : hasT l' (k : Int) = false := not_has fun t ht e2 => by
      have e3 : t.aid = k := by omega
      have h1 : hasT l (k : Int) = true := has_iff.2 ⟨t, (h t e3).2 ht, e2⟩
      rw [e] at h1
      cases h1
    exact ⟨(xT_not e).trans (xT_not e').symm, (yT_not e).trans (yT_not e').symm⟩
theorem at_mem {a : Int} (hh : hasT l a = true) : l.getD (fiT l a) tu0 ∈ l ∧ (((l.getD (fiT l a) tu0).aid : Nat) : Int) = a := by
  have hk := has_lt hh
  refine ⟨?_, fiT_at hk⟩
  have e : l.getD (fiT l a) tu0 = l[fiT l a] := by simp [List.getD, hk]
  rw [e]
  exact List.getElem_mem hk
theorem aid_one (hi : InvT l) {t u : Tu} (ht : t ∈ l) (hu : u ∈ l) (e : t.aid = u.aid) : t = u := by
  have h1 := (lu_mem hi ht).2
  have h2 := (lu_mem hi hu).2
  rw [e] at h1
  rw [← h1, h2]
theorem mem_setT (hi : InvT l) {a : Int} (hh : hasT l a = true) {t' t : Tu} (ht' : ((t'.aid : Nat) : Int) = a) : t ∈ l.set (fiT l a) t' ↔ t = t' ∨ (t ∈ l ∧ ((t.aid : Nat) : Int) ≠ a) := by
  have hk := has_lt hh
  constructor
  · intro h
    obtain ⟨j, hj, rfl⟩ := List.getElem_of_mem h
    rw [List.getElem_set]
    split
    · exact .inl rfl
    · rename_i hne
      rw [List.length_set] at hj
      refine .inr ⟨List.getElem_mem hj, fun e => hne ?_⟩
      have e1 : l.getD j tu0 = l[j] := by simp [List.getD, hj]
      have h3 := fiT_mem hi hj
      rw [e1, e] at h3
      exact h3
  · rintro (rfl | ⟨h1, h2⟩)
    · exact List.mem_set hk _
    · obtain ⟨j, hj, rfl⟩ := List.getElem_of_mem h1
      have hne : fiT l a ≠ j := fun e => by
        subst e
        have e1 : l.getD (fiT l a) tu0 = l[fiT l a] := by simp [List.getD, hk]
        exact h2 (e1 ▸ fiT_at hk)
      refine List.mem_of_getElem (i := j) (h := by rw [List.length_set]; exact hj) ?_
      rw [List.getElem_set, if_neg hne]
theorem xy_set (hi : InvT l) {a : Nat} (hh : hasT l (a : Int) = true) {t' : Tu} (ht' : t'.aid = a) (hi' : InvT (l.set (fiT l (a : Int)) t')) (k : Nat) : upX (xT l) a (t'.wt : Int) k = xT (l.set (fiT l (a : Int)) t') k ∧ upX (yT l) a (t'.tm : Int) k = yT (l.set (fiT l (a : Int)) t') k := by
  have ht2 : ((t'.aid : Nat) : Int) = (a : Int) := by omega
  by_cases e : k = a
  · subst e
    rw [upX_same, upX_same]
    have hm : t' ∈ l.set (fiT l (k : Int)) t' := (mem_setT hi hh ht2).2 (.inl rfl)
    have h1 := xT_mem hi' hm
    have h2 := yT_mem hi' hm
    rw [ht'] at h1 h2
    exact ⟨h1.symm, h2.symm⟩
  · rw [upX_ne e, upX_ne e]
    refine xy_same hi hi' fun t ht => ?_
    rw [mem_setT hi hh ht2]
    constructor
    · exact fun h => .inr ⟨h, by omega⟩
    · rintro (rfl | h)
      · exact absurd (ht.symm.trans ht') e
      · exact h.1
theorem xy_snoc (hi : InvT l) {a : Nat} (hh : hasT l (a : Int) = false) {t' : Tu} (ht' : t'.aid = a) (hi' : InvT (l ++ [t'])) (k : Nat) : upX (xT l) a (t'.wt : Int) k = xT (l ++ [t']) k ∧ upX (yT l) a (t'.tm : Int) k = yT (l ++ [t']) k := by
  by_cases e : k = a
  · subst e
    rw [upX_same, upX_same]
    have hm : t' ∈ l ++ [t'] := List.mem_append_right _ (List.mem_singleton.2 rfl)
    have h1 := xT_mem hi' hm
    have h2 := yT_mem hi' hm
    rw [ht'] at h1 h2
    exact ⟨h1.symm, h2.symm⟩
  · rw [upX_ne e, upX_ne e]
    refine xy_same hi hi' fun t ht => ?_
    rw [List.mem_append, List.mem_singleton]
    constructor
    · exact .inl
    · rintro (h | rfl)
      · exact h
      · exact absurd (ht.symm.trans ht') e
theorem mem_delT (hi : InvT l) {a : Int} (hh : hasT l a = true) {t : Tu} : t ∈ l.take (fiT l a) ++ l.drop (fiT l a + 1) ↔ t ∈ l ∧ ((t.aid : Nat) : Int) ≠ a := by
  have hk := has_lt hh
  have e : l.take (fiT l a) ++ l.drop (fiT l a + 1) = l.eraseIdx (fiT l a) := (List.eraseIdx_eq_take_drop_succ _ _).symm
  rw [e]
  have hp := erase_perm l (fiT l a) hk
  have ha : (((l[fiT l a]'hk).aid : Nat) : Int) = a := by
    have e1 : l.getD (fiT l a) tu0 = l[fiT l a] := by simp [List.getD, hk]
    exact e1 ▸ fiT_at hk
  have hn : (((l[fiT l a]'hk) :: l.eraseIdx (fiT l a)).map Tu.aid).Nodup := (hp.map Tu.aid).nodup_iff.2 hi.nd
  rw [List.map_cons, List.nodup_cons] at hn
  constructor
  · intro h
    exact ⟨hp.mem_iff.1 (List.mem_cons_of_mem _ h), fun e2 => hn.1 (List.mem_map.2 ⟨t, h, by omega⟩)⟩
  · rintro ⟨h1, h2⟩
    rcases List.mem_cons.1 (hp.mem_iff.2 h1) with rfl | h3
    · exact absurd ha h2
    · exact h3
theorem xy_del (hi : InvT l) {a : Nat} (hh : hasT l (a : Int) = true) (hi' : InvT (l.take (fiT l (a : Int)) ++ l.drop (fiT l (a : Int) + 1))) (k : Nat) : upX (xT l) a 0 k = xT (l.take (fiT l (a : Int)) ++ l.drop (fiT l (a : Int) + 1)) k ∧ upX (yT l) a 0 k = yT (l.take (fiT l (a : Int)) ++ l.drop (fiT l (a : Int) + 1)) k := by
  by_cases e : k = a
  · subst e
    rw [upX_same, upX_same]
    have hn : hasT (l.take (fiT l (k : Int)) ++ l.drop (fiT l (k : Int) + 1)) (k : Int) = false := not_has fun t ht => ((mem_delT hi hh).1 ht).2
    exact ⟨(xT_not hn).symm, (yT_not hn).symm⟩
  · rw [upX_ne e, upX_ne e]
    refine xy_same hi hi' fun t ht => ?_
    rw [mem_delT hi hh]
    exact ⟨fun h => ⟨h, by omega⟩, fun h => h.1⟩
/-! ### who is active -/
def OnI (l : List Tu) (hl : List Int) : Prop := ∀ b, b ∈ hl ↔ ∃ t ∈ l, t.on = true ∧ ((t.aid : Nat) : Int) = b
theorem onI_nil : OnI [] [] := fun b => ⟨fun h => (by cases h), fun ⟨t, h, _⟩ => (by cases h)⟩
theorem onI_snoc {hl : List Int} (h : OnI l hl) {t' : Tu} (ht : t'.on = false) : OnI (l ++ [t']) hl := fun b => by
  rw [h b]
  constructor
  · rintro ⟨t, h1, h2⟩
    exact ⟨t, List.mem_append_left _ h1, h2⟩
  · rintro ⟨t, h1, h2, h3⟩
    rcases List.mem_append.1 h1 with h4 | h4
    · exact ⟨t, h4, h2, h3⟩
    · rw [List.mem_singleton.1 h4, ht] at h2
      cases h2
theorem onI_set {hl hl' : List Int} (hi : InvT l) {a : Int} (hh : hasT l a = true) {t' : Tu} (ht' : ((t'.aid : Nat) : Int) = a) (h : OnI l hl) (h1 : ∀ b, b ≠ a → (b ∈ hl' ↔ b ∈ hl)) (h2 : a ∈ hl' ↔ t'.on = true) : OnI (l.set (fiT l a) t') hl' := fun b => by
  by_cases e : b = a
  · subst e
    rw [h2]
    constructor
    · exact fun h3 => ⟨t', (mem_setT hi hh ht').2 (.inl rfl), h3, ht'⟩
    · rintro ⟨t, h3, h4, h5⟩
      rcases (mem_setT hi hh ht').1 h3 with rfl | h6
      · exact h4
      · exact absurd h5 h6.2
  · rw [h1 b e, h b]
    constructor
    · rintro ⟨t, h3, h4, h5⟩
      exact ⟨t, (mem_setT hi hh ht').2 (.inr ⟨h3, fun e2 => e (h5.symm.trans e2)⟩), h4, h5⟩
    · rintro ⟨t, h3, h4, h5⟩
      rcases (mem_setT hi hh ht').1 h3 with rfl | h6
      · exact absurd (h5.symm.trans ht') e
      · exact ⟨t, h6.1, h4, h5⟩
theorem onI_at {hl : List Int} (hi : InvT l) {a : Int} (hh : hasT l a = true) (h : OnI l hl) : a ∈ hl ↔ (l.getD (fiT l a) tu0).on = true := by
  obtain ⟨h1, h2⟩ := at_mem hh
  rw [h a]
  constructor
  · rintro ⟨t, h3, h4, h5⟩
    rw [aid_one hi h1 h3 (by omega)]
    exact h4
  · exact fun h3 => ⟨_, h1, h3, h2⟩
theorem onI_del {hl hl' : List Int} (hi : InvT l) {a : Int} (hh : hasT l a = true) (h : OnI l hl) (h1 : ∀ b, b ∈ hl' ↔ b ∈ hl ∧ b ≠ a) : OnI (l.take (fiT l a) ++ l.drop (fiT l a + 1)) hl' := fun b => by
  rw [h1, h b]
  constructor
  · rintro ⟨⟨t, h3, h4, h5⟩, h6⟩
    exact ⟨t, (mem_delT hi hh).2 ⟨h3, fun e => h6 (h5.symm.trans e)⟩, h4, h5⟩
  · rintro ⟨t, h3, h4, h5⟩
    have h7 := (mem_delT hi hh).1 h3
    exact ⟨⟨t, h7.1, h4, h5⟩, fun e => h7.2 (h5.trans e)⟩
/-! ### in order -/
theorem perm_nodup {α : Type} [BEq α] [LawfulBEq α] : ∀ {a b : List α}, a.Nodup → b.Nodup → (∀ x, x ∈ a ↔ x ∈ b) → a.Perm b
  | [], b, _, _, h => by
    cases b with
    | nil => exact List.Perm.refl _
    | cons y s => exact absurd ((h y).2 List.mem_cons_self) (by simp)
  | x :: r, b, ha, hb, h => by
    have hx : x ∈ b := (h x).1 List.mem_cons_self
    rw [List.nodup_cons] at ha
    refine (List.Perm.cons x (perm_nodup ha.2 (hb.erase x) fun y => ?_)).trans (List.perm_cons_erase hx).symm
    rw [hb.mem_erase_iff]
    constructor
    · exact fun hy => ⟨fun e => ha.1 (e ▸ hy), (h y).1 (List.mem_cons_of_mem _ hy)⟩
    · rintro ⟨h1, h2⟩
      rcases List.mem_cons.1 ((h y).2 h2) with e | e
      · exact absurd e h1
      · exact e
theorem sorted_eq {α : Type} {R : α → α → Prop} (anti : ∀ a b, R a b → R b a → a = b) : ∀ {a b : List α}, a.Pairwise R → b.Pairwise R → a.Perm b → a = b
  | [], b, _, _, hp => (List.nil_perm.1 hp).symm
  | x :: r, b, ha, hb, hp => by
    cases b with
    | nil => exact absurd hp.length_eq (by simp)
    | cons y s =>
      rw [List.pairwise_cons] at ha hb
      have hxy : x = y := by
        have hx : x ∈ y :: s := hp.mem_iff.1 List.mem_cons_self
        have hy : y ∈ x :: r := hp.mem_iff.2 List.mem_cons_self
        rcases List.mem_cons.1 hy with e | hy2
        · exact e.symm
        · rcases List.mem_cons.1 hx with e | hx2
          · exact e
          · exact anti _ _ (ha.1 y hy2) (hb.1 x hx2)
      subst hxy
      rw [sorted_eq anti ha.2 hb.2 hp.cons_inv]
def ordI (l : List Tu) : List Int := (orderT [] l).map fun t => ((t.aid : Nat) : Int)
theorem ordI_nodup (hi : InvT l) : (ordI l).Nodup := by
  have h := ordN_nodup hi
  have e : ordI l = ((ordN l).map Tu.aid).map fun n : Nat => (n : Int) := by unfold ordI ordN; rw [List.map_map]; rfl
  rw [e]
  exact List.Pairwise.map _ (fun a b hab => by omega) h
theorem ordI_mem {b : Int} : b ∈ ordI l ↔ ∃ t ∈ l, t.on = true ∧ ((t.aid : Nat) : Int) = b := by
  unfold ordI
  rw [List.mem_map]
  constructor
  · rintro ⟨t, h1, h2⟩
    have := ordN_mem.1 (show t ∈ ordN l from h1)
    exact ⟨t, this.1, this.2, h2⟩
  · rintro ⟨t, h1, h2, h3⟩
    exact ⟨t, ordN_mem.2 ⟨h1, h2⟩, h3⟩
theorem ltA_tu (hi : InvT l) {t u : Tu} (ht : t ∈ l) (hu : u ∈ l) : ltA (yT l) ((t.aid : Nat) : Int) ((u.aid : Nat) : Int) ↔ ltT t u := by
  unfold ltA ltT
  rw [Int.toNat_natCast, Int.toNat_natCast, yT_mem hi ht, yT_mem hi hu]
  omega
theorem ordI_sorted (hi : InvT l) : (ordI l).Pairwise fun a b => ¬ ltA (yT l) b a := by
  unfold ordI
  rw [List.pairwise_map]
  refine List.Pairwise.imp_of_mem (R := leT) (fun {a b} ha hb hab => ?_) (ordN_sorted l)
  have h1 := ordN_mem.1 ha
  have h2 := ordN_mem.1 hb
  rw [ltA_tu hi h2.1 h1.1, ltT_not]
  exact hab
theorem order_is {hl acc : List Int} (hi : InvT l) (ho : OnI l hl) (hn : hl.Nodup) (hp : acc.Perm hl) (hs : acc.Pairwise fun a b => ¬ ltA (yT l) b a) : acc = ordI l := by
  refine sorted_eq (fun a b h1 h2 => ?_) hs (ordI_sorted hi) (hp.trans (perm_nodup hn (ordI_nodup hi) fun b => by rw [ho b, ordI_mem]))
  unfold ltA at h1 h2
  omega
/-- the first of the heap has the least time. -/
theorem head_nil {hl : List Int} (ho : OnI l hl) (h : orderT [] l = []) : hl = [] := by
  cases hl with
  | nil => rfl
  | cons b r =>
    obtain ⟨t, h1, h2, -⟩ := (ho b).1 List.mem_cons_self
    have := ordN_mem.2 ⟨h1, h2⟩
    unfold ordN at this
    rw [h] at this
    cases this
theorem head_is {hl : List Int} (hi : InvT l) (ho : OnI l hl) (hh : HeapL (ltA (yT l)) 0 hl) {u : Tu} {r : List Tu} (h : orderT [] l = u :: r) : 0 < hl.length ∧ yT l (hl.getD 0 0).toNat = (u.tm : Int) := by
  have hu := ordN_mem.1 (show u ∈ ordN l by unfold ordN; rw [h]; exact List.mem_cons_self)
  have hb : ((u.aid : Nat) : Int) ∈ hl := (ho _).2 ⟨u, hu.1, hu.2, rfl⟩
  have h0 : 0 < hl.length := List.length_pos_of_mem hb
  refine ⟨h0, ?_⟩
  obtain ⟨t, ht1, ht2, ht3⟩ := (ho _).1 (mem_getD (zs := hl) h0)
  have h1 := heap_head (ltA_slo (yT l)) hh _ hb
  rw [← ht3, ltA_tu hi hu.1 ht1] at h1
  have hs := ordN_sorted l
  unfold ordN at hs
  rw [h, List.pairwise_cons] at hs
  have h2 : u = t ∨ leT u t := by
    have hm : t ∈ u :: r := by rw [← h]; exact ordN_mem.2 ⟨ht1, ht2⟩
    rcases List.mem_cons.1 hm with e | e
    · exact .inl e.symm
    · exact .inr (hs.1 t e)
  rw [← ht3, Int.toNat_natCast, yT_mem hi ht1]
  unfold ltT at h1
  rcases h2 with rfl | h2
  · rfl
  · unfold leT at h2
    omega
end
end Go.Proofs.YtkmblmnffnhpmaaDoor
