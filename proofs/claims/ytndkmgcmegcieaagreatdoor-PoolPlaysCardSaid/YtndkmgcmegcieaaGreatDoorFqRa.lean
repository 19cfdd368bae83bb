/-
  THE REFERENCE's QUEUE: what a store into it leaves.
-/
import Derived.Test.YtndkmgcmegcieaaGreatDoorMgC
import Derived.Test.YtndkmgcmegcieaaGreatDoorMgD
namespace Go.Proofs.YtndkmgcmegcieaaGreatDoor
open Go.ChangeShapes Go.WideShapes Go.ChangeAt Go.RowKit Go.Deep
set_option linter.unusedVariables false
set_option linter.unusedSimpArgs false
structure RqS (T : Nat → Prop) (w : World) (x : Rq) (V : Nat → Value) (T' : Nat → Prop) (w' : World) (V' : Nat → Value) : Prop where
 only : Only (FootR x V) w w'
 fresh : ∀ k, FootR x V' k → FootR x V k ∨ w.heap.size ≤ k
 ft : ∀ k, T' k → T k ∨ w.heap.size ≤ k
 tt : ∀ k, T k → T' k
section
variable {T T' T2 S : Nat → Prop} {w w' w2 : World} {x : Rq} {V V' V2 : Nat → Value} {q q' : Qu}
theorem RqS.refl : RqS T w x V T w V := ⟨Only.refl _ _, fun k h => .inl h, fun k h => .inl h, fun k h => h⟩
theorem RqS.trans (a : RqS T w x V T' w' V') (b : RqS T' w' x V' T2 w2 V2) : RqS T w x V T2 w2 V2 where
 only := a.only.trans b.only fun i hi e => by
  rcases a.fresh i e with h1 | h1
  ·exact h1
  ·omega
 fresh := fun i e => by
  rcases b.fresh i e with h1 | h1
  ·exact a.fresh i h1
  ·exact .inr (Nat.le_trans a.only.size h1)
 ft := fun i e => by
  rcases b.ft i e with h1 | h1
  ·exact a.ft i h1
  ·exact .inr (Nat.le_trans a.only.size h1)
 tt := fun i e => b.tt i (a.tt i e)
theorem RqS.quiet (a : RqS T w x V T' w' V') (hb : Below w'.heap.size w' w2) : RqS T w x V T' w2 V' := ⟨a.only.then_quiet hb, a.fresh, a.ft, a.tt⟩
theorem RqS.from_ (hb : Below w.heap.size w w') (a : RqS T w' x V T' w2 V') : RqS T w x V T' w2 V' :=
 ⟨(Only.of_quiet hb).trans a.only fun _ _ e => e, fun k e => (a.fresh k e).imp id (Nat.le_trans hb.size), fun k e => (a.ft k e).imp id (Nat.le_trans hb.size), a.tt⟩
theorem IsRq.ltV (h : IsRq T w x V q) {i : Nat} (hi : i < 18) {k : Nat} (hk : (V i).ownBlock = some k) : k < w.heap.size := h.lts (.inr ⟨i, hi, hk⟩)
theorem IsRq.foot (h : IsRq T w x V q) {k : Nat} (hk : FootR x V k) : ¬ T k := by
 rcases hk with rfl | ⟨i, hi, e⟩
 ·exact h.apt
 ·exact (h.apart i hi k e).2
theorem OwnP.mono0 {w : World} {B : Nat} {v : Value} {l : List Pk} (h : OwnP T w B v l) (ht : ∀ k, T k → T' k) (hn : ∀ g, v.ownBlock = some g → ¬ T' g) : OwnP T' w B v l := OwnK.mono h (fun k _ => ht k) hn
theorem IsRq.put (h : IsRq T w x V q) {i : Nat} (hi : i < 18) {u : Value}
 (ho : Only (fun k => k = x.g ∨ (V i).ownBlock = some k) w w') (hf : ∀ k, u.ownBlock = some k → (V i).ownBlock = some k ∨ w.heap.size ≤ k)
 (tt : ∀ k, T k → T' k) (ft : ∀ k, T' k → T k ∨ w.heap.size ≤ k) (tl : ∀ k, T' k → k < w'.heap.size) (hug : ∀ k, u.ownBlock = some k → k ≠ x.g ∧ ¬ T' k)
 (hb : w'.heap[x.g]? = some (.cells (rqC x (updF V i u) q'.fl).toArray 90 (0, 0)))
 (hpk : ∀ b, b < 16 → b ≠ i → (q'.fl b).pk = (q.fl b).pk) (hfr : i ≠ 16 → q'.fresh = q.fresh) (hel : i ≠ 17 → q'.elder = q.elder)
 (hu : (i < 16 → OwnP T' w' 0 u (q'.fl i).pk) ∧ (i = 16 → OwnN w' 0 u (natsI q'.fresh)) ∧ (i = 17 → OwnN w' 0 u (natsI q'.elder))) :
 IsRq T' w' x (updF V i u) q' ∧ RqS T w x V T' w' (updF V i u) := by
 have hnot : ∀ j, j < 18 → j ≠ i → ∀ k, (V j).ownBlock = some k → ¬ (k = x.g ∨ (V i).ownBlock = some k) := fun j hj h1 k hk e => by
  rcases e with e | e
  ·exact (h.apart j hj k hk).1 e
  ·exact h.own j hj i hi h1 k hk e
 have hT : ∀ k, T k → ¬ (k = x.g ∨ (V i).ownBlock = some k) := fun k hk e => by
  rcases e with e | e
  ·exact h.apt (e ▸ hk)
  ·exact (h.apart i hi k e).2 hk
 have hold : ∀ j, j < 18 → ∀ k, (updF V i u j).ownBlock = some k → (V j).ownBlock = some k ∨ (w.heap.size ≤ k ∧ j = i) := fun j hj k hk => by
  by_cases h1 : j = i
  ·subst h1
   rw [updF_same] at hk
   exact (hf k hk).imp id fun e => ⟨e, rfl⟩
  ·rw [updF_other _ _ h1] at hk
   exact .inl hk
 have hTo : ∀ j, j < 18 → ∀ k, (V j).ownBlock = some k → ¬ T' k := fun j hj k hk ht => by
  rcases ft k ht with h1 | h1
  ·exact (h.apart j hj k hk).2 h1
  ·have := h.ltV hj hk; omega
 constructor
 ·exact {
   blk := hb
   pk := fun b hb16 => by
    by_cases h1 : b = i
    ·subst h1; rw [updF_same]; exact hu.1 hb16
    ·rw [updF_other _ _ h1, hpk b hb16 h1]
     exact OwnP.mono0 ((h.pk b hb16).only ho (hnot b (by omega) h1) hT) tt fun g hg => hTo b (by omega) g hg
   fr := by
    by_cases h1 : 16 = i
    ·subst h1; rw [updF_same]; exact hu.2.1 rfl
    ·rw [updF_other _ _ h1, hfr (fun e => h1 e.symm)]
     exact ⟨owns_only h.fr.1 ho (hnot 16 (by omega) h1), h.fr.2⟩
   el := by
    by_cases h1 : 17 = i
    ·subst h1; rw [updF_same]; exact hu.2.2 rfl
    ·rw [updF_other _ _ h1, hel (fun e => h1 e.symm)]
     exact ⟨owns_only h.el.1 ho (hnot 17 (by omega) h1), h.el.2⟩
   own := fun j hj l hl hjl k h1 h2 => by
    rcases hold j hj k h1 with a1 | ⟨a1, a2⟩
    ·rcases hold l hl k h2 with b1 | ⟨b1, b2⟩
     ·exact h.own j hj l hl hjl k a1 b1
     ·have := h.ltV hj a1; omega
    ·rcases hold l hl k h2 with b1 | ⟨b1, b2⟩
     ·have := h.ltV hl b1; omega
     ·exact hjl (a2.trans b2.symm)
   apart := fun j hj k hk => by
    by_cases h1 : j = i
    ·subst h1; rw [updF_same] at hk; exact hug k hk
    ·rw [updF_other _ _ h1] at hk
     exact ⟨(h.apart j hj k hk).1, hTo j hj k hk⟩
   there := tl
   apt := fun e => by
    rcases ft _ e with h1 | h1
    ·exact h.apt h1
    ·have := h.lt; omega }
 ·refine ⟨ho.mono fun k _ e => ?_, fun k hk => ?_, ft, tt⟩
  ·rcases e with e | e
   ·exact .inl e
   ·exact .inr ⟨i, hi, e⟩
  ·rcases hk with e | ⟨j, hj, e⟩
   ·exact .inl (.inl e)
   ·rcases hold j hj k e with h1 | ⟨h1, -⟩
    ·exact .inl (.inr ⟨j, hj, h1⟩)
    ·exact .inr h1
theorem updF_id (V : Nat → Value) (i : Nat) : updF V i (V i) = V := by
 funext k
 by_cases e : k = i
 ·subst e; rw [updF_same]
 ·rw [updF_other _ _ e]
theorem IsRq.num (h : IsRq T w x V q) (ho : Only (· = x.g) w w') (hb : w'.heap[x.g]? = some (.cells (rqC x V q'.fl).toArray 90 (0, 0)))
 (hpk : ∀ b, b < 16 → (q'.fl b).pk = (q.fl b).pk) (hfr : q'.fresh = q.fresh) (hel : q'.elder = q.elder) : IsRq T w' x V q' ∧ RqS T w x V T w' V := by
 have hq := h.put (w' := w') (T' := T) (i := 16) (u := V 16) (q' := q') (by omega) (ho.mono fun k _ e => .inl e) (fun k hk => .inl hk) (fun k hk => hk) (fun k hk => .inl hk) (fun k hk => Nat.lt_of_lt_of_le (h.there k hk) ho.size)
  (fun k hk => h.apart 16 (by omega) k hk) (by rw [updF_id]; exact hb) (fun b hb _ => hpk b hb) (fun e => absurd rfl e) (fun _ => hel)
  ⟨fun e => by omega, fun _ => by rw [hfr]; exact ⟨owns_only h.fr.1 ho fun k hk e => (h.apart 16 (by omega) k hk).1 e, h.fr.2⟩, fun e => by omega⟩
 rw [updF_id] at hq
 exact hq
theorem rq_set (x : Rq) (V : Nat → Value) (f : Nat → Fl) {b j : Nat} (hb : b < 16) (hj : j < 7) (v u : Value) (y : Fl) (h : (flC (V b) (f b)).set j v = flC u y) :
 (rqC x V f).toArray.setIfInBounds (3 + (b * 7 + j)) v = (rqC x (updF V b u) (setF f b y)).toArray := by
 rw [List.setIfInBounds_toArray, rqC_setfl x V f hb hj v u y h]
theorem rq_set16 (x : Rq) (V : Nat → Value) (f : Nat → Fl) (v : Value) : (rqC x V f).toArray.setIfInBounds 115 v = (rqC x (updF V 16 v) f).toArray := by
 rw [List.setIfInBounds_toArray, rqC_setfr]
theorem rq_set17 (x : Rq) (V : Nat → Value) (f : Nat → Fl) (v : Value) : (rqC x V f).toArray.setIfInBounds 116 v = (rqC x (updF V 17 v) f).toArray := by
 rw [List.setIfInBounds_toArray, rqC_setel]
theorem rq_size (x : Rq) (V : Nat → Value) (f : Nat → Fl) : (rqC x V f).toArray.size = 117 := by simp [rqC_len]
end
end Go.Proofs.YtndkmgcmegcieaaGreatDoor
