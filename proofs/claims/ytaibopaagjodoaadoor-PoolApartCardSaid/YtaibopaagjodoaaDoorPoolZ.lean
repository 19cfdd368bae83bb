/-
  POOL: maths of queues apart (PoolApart): how many are in each, all of one number; a calm CoDel.
-/
import Derived.Test.YtaibopaagjodoaaDoorPoolY
import Derived.Test.YtaibopaagjodoaaDoorPoolJ
namespace Go.Proofs.YtaibopaagjodoaaDoor
open Go.ChangeShapes Go.WideShapes Go.ChangeAt Go.RowKit Go.Deep
set_option linter.unusedVariables false
set_option linter.unusedSimpArgs false

def CalmQ (P : Pl) (q : Qu) : Prop := ∀ b, CalmF P (q.fl b)
theorem calm_set {P : Pl} {q : Qu} {b : Nat} {y : Fl} {fr el : List Nat} (h : CalmQ P q) (hy : CalmF P y) : CalmQ P ⟨setF q.fl b y, fr, el⟩ := fun k => by
  by_cases e : k = b
  · subst e; show CalmF P (setF q.fl k y k); rw [setF_same]; exact hy
  · show CalmF P (setF q.fl b y k); rw [setF_other _ _ e]; exact h k
theorem takes_calm {P : Pl} {q : Qu} {ds : List Pk} {r : Option Pk} {ds' : List Pk} {q' : Qu} (h : Takes P q ds r ds' q') : CalmQ P q → ds' = ds ∧ CalmQ P q' := by
  induction h with
  | none _ => exact fun hc => ⟨rfl, hc⟩
  | @turn q ds b nw r ds' q' h1 hd ht ih =>
    intro hc
    exact ih (calm_set hc ⟨(hc b).1, (hc b).2⟩)
  | @gone q ds b nw c n r ds' q' h1 hd hp ht ih =>
    intro hc
    cases hk : (q.fl b).pk with
    | nil =>
      have h2 : (c, n, false) = (cdC (q.fl b).cd, 0, false) := by
        rw [← hp]; unfold pullF; rw [hk]; rfl
      simp only [Prod.mk.injEq, and_true] at h2
      obtain ⟨rfl, rfl⟩ := h2
      have := ih (calm_set hc ⟨rfl, fun p hp2 => (hc b).2 p (List.mem_of_mem_drop hp2)⟩)
      rwa [List.take_zero, List.append_nil] at this
    | cons p t =>
      rw [pull_calmF (hc b) hk] at hp
      cases hp
  | @took q ds b nw c n h1 hd hp =>
    intro hc
    cases hk : (q.fl b).pk with
    | nil =>
      have h2 : (c, n, true) = (cdC (q.fl b).cd, 0, false) := by
        rw [← hp]; unfold pullF; rw [hk]; rfl
      simp at h2
    | cons p t =>
      rw [pull_calmF (hc b) hk] at hp
      simp only [Prod.mk.injEq, and_true] at hp
      obtain ⟨rfl, rfl⟩ := hp
      refine ⟨by rw [List.take_zero, List.append_nil], calm_set hc ⟨rfl, fun p hp2 => (hc b).2 p (List.mem_of_mem_drop hp2)⟩⟩
theorem all_one {q q' : Qu} {p : Pk} {b : Nat} (h : (q.fl b).pk = p :: (q'.fl b).pk) (ho : ∀ k, k ≠ b → (q.fl k).pk = (q'.fl k).pk) : ∀ n, b < n → (allTo q n).Perm (p :: allTo q' n)
  | 0, hb => by omega
  | n + 1, hb => by
    rw [allTo_succ, allTo_succ]
    by_cases e : b = n
    · subst e
      rw [allTo_congr (r := q') b fun k hk => ho k (by omega), h]
      exact List.perm_middle
    · rw [ho n (fun e2 => e e2.symm)]
      exact List.Perm.append_right _ (all_one h ho n (by omega))
/-- a calm queue gives the next one of some flow, or is empty. -/
theorem take_calm {bk : Int → Nat} (hbk : ∀ f, bk f < 16) {P : Pl} {q : Qu} {r : Option Pk} {ds : List Pk} {q' : Qu} (h : Takes P q [] r ds q') (hI : InvQ bk q) (hc : CalmQ P q) :
    ds = [] ∧ CalmQ P q' ∧ ((r = none ∧ allQ q = [] ∧ allQ q' = []) ∨ ∃ p, r = some p ∧ (allQ q).Perm (p :: allQ q')) := by
  obtain ⟨rfl, hc'⟩ := takes_calm h hc
  obtain ⟨-, h2, h3⟩ := takes_keep h hI
  refine ⟨rfl, hc', ?_⟩
  cases r with
  | none =>
    have e : ∀ b, (q'.fl b).pk = [] := h3 rfl
    have e2 : ∀ b, (q.fl b).pk = [] := fun b => by have := h2 b; rw [e b] at this; simpa using this.symm
    refine .inl ⟨rfl, ?_, ?_⟩
    · exact (allTo_congr (r := quZ) 16 fun b _ => by rw [e2 b]; rfl).trans allQ_Z
    · exact (allTo_congr (r := quZ) 16 fun b _ => by rw [e b]; rfl).trans allQ_Z
  | some p =>
    refine .inr ⟨p, rfl, all_one (b := bk p.flow) ?_ (fun k hk => ?_) 16 (hbk _)⟩
    · have := h2 (bk p.flow)
      simp [outOf] at this
      exact this.symm
    · have := h2 k
      have e : (bk p.flow == k) = false := by simp; exact fun e => hk e.symm
      simp [outOf, e] at this
      exact this.symm
/-! ### the pool's -/
def idK (k : Nat) : Int := 100 * (((k / 8 : Nat) : Int) + 1) + ((k % 8 : Nat) : Int)
structure ApI (P : Pl) (c : Nat → Nat) (M : Nat → Qu) : Prop where
  cnt : ∀ k, k < 128 → (allQ (M k)).length = c k
  ids : ∀ k, k < 128 → ∀ p ∈ allQ (M k), p.id = idK k
  calm : ∀ k, k < 128 → CalmQ P (M k)
theorem ap_zero (P : Pl) : ApI P (fun _ => 0) M0 :=
  ⟨(fun k _ => by show (allQ quZ).length = 0; rw [allQ_Z]; rfl), (fun k _ p hp => by have : p ∈ allQ quZ := hp; rw [allQ_Z] at this; cases this), (fun k _ b => ⟨rfl, (fun p hp => by cases hp)⟩)⟩
section
variable {P : Pl} {c : Nat → Nat} {M : Nat → Qu} {bk : Int → Nat}
theorem ap_set (h : ApI P c M) (k : Nat) (q : Qu) (n : Nat) (hn : (allQ q).length = n) (hi : ∀ p ∈ allQ q, p.id = idK k) (hc : CalmQ P q) : ApI P (updF c k n) (updF M k q) := by
  refine ⟨fun j hj => ?_, fun j hj => ?_, fun j hj => ?_⟩ <;> by_cases e : j = k
  · subst e; rw [updF_same, updF_same]; exact hn
  · rw [updF_other _ _ e, updF_other _ _ e]; exact h.cnt j hj
  · subst e; rw [updF_same]; exact hi
  · rw [updF_other _ _ e]; exact h.ids j hj
  · subst e; rw [updF_same]; exact hc
  · rw [updF_other _ _ e]; exact h.calm j hj
theorem ap_put (hbk : ∀ f, bk f < 16) (h : ApI P c M) {k : Nat} (hk : k < 128) {p : Pk} (hp : p.id = idK k) (hc : P.now - p.at_ < P.target) : ApI P (updF c k (c k + 1)) (updF M k (putQ bk (M k) p)) := by
  have h1 := all_put hbk (M k) p
  refine ap_set h k _ _ (by rw [h1.length_eq, List.length_cons, h.cnt k hk]) (fun x hx => ?_) ?_
  · rcases List.mem_cons.1 (h1.mem_iff.1 hx) with e | e
    · rw [e]; exact hp
    · exact h.ids k hk x e
  · have h2 : ∀ (df : Int) (fr el : List Nat), CalmQ P ⟨setF (M k).fl (bk p.flow) ⟨((M k).fl (bk p.flow)).pk ++ [p], df, ((M k).fl (bk p.flow)).cd⟩, fr, el⟩ := fun df fr el =>
      calm_set (h.calm k hk) ⟨(h.calm k hk _).1, fun x hx => by
        rcases List.mem_append.1 hx with e | e
        · exact (h.calm k hk _).2 x e
        · rw [List.mem_singleton.1 e]; exact hc⟩
    unfold putQ
    split <;> exact h2 _ _ _
theorem ap_take (hbk : ∀ f, bk f < 16) (h : ApI P c M) {k : Nat} (hk : k < 128) {r : Option Pk} {ds : List Pk} {q' : Qu} (ht : Takes P (M k) [] r ds q') (hI : InvQ bk (M k)) :
    ds = [] ∧ ((c k = 0 ∧ r = none ∧ ApI P c (updF M k q')) ∨ ∃ p n, c k = n + 1 ∧ r = some p ∧ p.id = idK k ∧ ApI P (updF c k n) (updF M k q')) := by
  obtain ⟨h1, h2, h3⟩ := take_calm hbk ht hI (h.calm k hk)
  refine ⟨h1, ?_⟩
  rcases h3 with ⟨rfl, e1, e2⟩ | ⟨p, rfl, e1⟩
  · have h0 : c k = 0 := by rw [← h.cnt k hk, e1]; rfl
    refine .inl ⟨h0, rfl, ?_⟩
    have := ap_set h k q' 0 (by rw [e2]; rfl) (fun p hp => by rw [e2] at hp; cases hp) h2
    rw [← h0] at this
    have e : updF c k (c k) = c := by
      funext j
      by_cases e : j = k
      · subst e; rw [updF_same]
      · rw [updF_other _ _ e]
    rwa [e] at this
  · have hl := e1.length_eq
    rw [h.cnt k hk, List.length_cons] at hl
    exact .inr ⟨p, _, hl, rfl, h.ids k hk p (e1.mem_iff.2 List.mem_cons_self), ap_set h k q' _ rfl (fun x hx => h.ids k hk x (e1.mem_iff.2 (List.mem_cons_of_mem _ hx))) h2⟩
/-- a station's counts, cleared. -/
def clrC (c : Nat → Nat) (a k : Nat) : Nat → Nat := fun j => if 8 * a ≤ j ∧ j < 8 * a + k then 0 else c j
theorem ap_clr (h : ApI P c M) (a : Nat) : ApI P (clrC c a 8) (clrM M a 8) := by
  refine ⟨fun j hj => ?_, fun j hj => ?_, fun j hj => ?_⟩ <;> by_cases e : 8 * a ≤ j ∧ j < 8 * a + 8
  · unfold clrC clrM; rw [if_pos e, if_pos e, allQ_Z]; rfl
  · unfold clrC clrM; rw [if_neg e, if_neg e]; exact h.cnt j hj
  · unfold clrM; rw [if_pos e, allQ_Z]; intro p hp; cases hp
  · unfold clrM; rw [if_neg e]; exact h.ids j hj
  · unfold clrM; rw [if_pos e]; exact fun b => ⟨rfl, fun p hp => by cases hp⟩
  · unfold clrM; rw [if_neg e]; exact h.calm j hj
theorem clrC_succ (c : Nat → Nat) (a k : Nat) : updF (clrC c a k) (8 * a + k) 0 = clrC c a (k + 1) := by
  funext j
  by_cases e : j = 8 * a + k
  · subst e; rw [updF_same]; unfold clrC; rw [if_pos (by omega)]
  · rw [updF_other _ _ e]
    unfold clrC
    by_cases h : 8 * a ≤ j ∧ j < 8 * a + k
    · rw [if_pos h, if_pos (by omega)]
    · rw [if_neg h, if_neg (by omega)]
theorem clrC_zero (c : Nat → Nat) (a : Nat) : clrC c a 0 = c := by funext j; unfold clrC; rw [if_neg (by omega)]
theorem clrC_at (c : Nat → Nat) (a k : Nat) : clrC c a k (8 * a + k) = c (8 * a + k) := by unfold clrC; rw [if_neg (by omega)]
theorem ap_drops (h : ApI P c M) {a : Nat} (ha : a < 16) {k : Nat} (hk : k < 8) : (dropA M a (k + 1)).length = (dropA M a k).length + c (8 * a + k) := by
  rw [dropA_succ, List.length_append, h.cnt _ (by omega)]
theorem ap_empty (h : ApI P c M) (h0 : ∀ k, k < 128 → c k = 0) : allP M 128 = [] := by
  have e : allP M 128 = allP M0 128 := allP_congr 128 fun k hk => by
    have e2 : allQ (M k) = [] := List.eq_nil_of_length_eq_zero (by rw [h.cnt k hk, h0 k hk])
    rw [e2]
    exact allQ_Z.symm
  rw [e]; exact allP_M0 128
end
/-! ### the counts in a row of cells -/
def rowI (l : List Int) : Array Value := (l.map (Value.int .i64)).toArray
theorem rowI_size (l : List Int) : (rowI l).size = l.length := by simp [rowI]
theorem rowI_set (l : List Int) (i : Nat) (v : Int) : (rowI l).setIfInBounds i (.int .i64 v) = rowI (l.set i v) := by
  unfold rowI
  rw [List.setIfInBounds_toArray, List.map_set]
theorem rowI_cell {w : World} {g : Nat} {l : List Int} {t : TypeId} (h : w.heap[g]? = some (.cells (rowI l) t (0, 0))) (i : Nat) (hi : i < l.length) : w.cell? ⟨g, i, none⟩ = some (.int .i64 (l.getD i 0)) := by
  have e := (block_range h) i (.int .i64 (l.getD i 0)) (by simp [rowI, List.getD, hi])
  simpa using e
/-- have[a][t] is how many are in the queue of a, t. -/
structure HaveI (c : Nat → Nat) (S : List Int) : Prop where
  len : S.length = 136
  at_ : ∀ k, k < 128 → S.getD (8 + k) 0 = (c k : Int)
theorem have_zero : HaveI (fun _ => 0) (List.replicate 136 0) := by
  refine ⟨List.length_replicate, fun k hk => ?_⟩
  show (List.replicate 136 (0 : Int)).getD (8 + k) 0 = 0
  unfold List.getD
  rw [List.getElem?_replicate]
  split <;> rfl
theorem HaveI.set {c : Nat → Nat} {S : List Int} (h : HaveI c S) {k : Nat} (hk : k < 128) (n : Nat) : HaveI (updF c k n) (S.set (8 + k) (n : Int)) := by
  refine ⟨by rw [List.length_set]; exact h.len, fun j hj => ?_⟩
  by_cases e : j = k
  · subst e
    rw [updF_same]
    simp [List.getD, h.len, show 8 + j < 136 by omega]
  · rw [updF_other _ _ e, ← h.at_ j hj]
    simp only [List.getD, List.getElem?_set_ne (show 8 + k ≠ 8 + j by omega)]
end Go.Proofs.YtaibopaagjodoaaDoor
