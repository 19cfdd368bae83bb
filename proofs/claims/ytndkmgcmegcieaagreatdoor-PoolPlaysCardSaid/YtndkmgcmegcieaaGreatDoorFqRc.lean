/-
  THE REFERENCE's QUEUE: a new row in a slot's place; a list by append.
-/
import Derived.Test.YtndkmgcmegcieaaGreatDoorFqRb
import Derived.Test.YtndkmgcmegcieaaGreatDoorMgF
namespace Go.Proofs.YtndkmgcmegcieaaGreatDoor
open Go.ChangeShapes Go.WideShapes Go.ChangeAt Go.RowKit Go.Deep
set_option linter.unusedVariables false
set_option linter.unusedSimpArgs false
theorem OwnN.base0 {w : World} {B : Nat} {v : Value} {l : List Int} (h : OwnN w B v l) : OwnN w 0 v l := ⟨owns_base h.1 (Nat.zero_le _), h.2⟩
theorem OwnN.new {w : World} {B : Nat} {v : Value} {l : List Int} (h : OwnN w B v l) : ∀ g, v.ownBlock = some g → B ≤ g := fun g hg => (World.ownsRow.lt h.1 g hg).1
theorem nats_del (l : List Nat) (b : Nat) : (natsI l).filter (fun a => a != (b : Int)) = natsI (delL l b) := by
 unfold natsI delL
 rw [List.filter_map]
 congr 1
 refine List.filter_congr fun k _ => ?_
 rw [Bool.eq_iff_iff]
 simp only [bne_iff_ne, ne_eq, Function.comp]
 constructor
 ·intro h e; exact h (by rw [e])
 ·intro h e; exact h (by omega)
theorem nats_snoc (l : List Nat) (b : Nat) : natsI (l ++ [b]) = natsI l ++ [(b : Int)] := by unfold natsI; rw [List.map_append]; rfl
section
variable {T : Nat → Prop} {w w1 : World} {x : Rq} {V : Nat → Value} {q : Qu}
theorem IsRq.new_pk (h : IsRq T w x V q) {b : Nat} (hb : b < 16) (hB : Below w.heap.size w w1) {u : Value} {l : List Pk} (df : Int) (cd : Cd) (hu : OwnP T w1 w.heap.size u l) (hf : ∀ g, u.ownBlock = some g → w.heap.size ≤ g) :
 IsRq T (w1.setRow x.g (rqC x (updF V b u) (setF q.fl b ⟨l, df, cd⟩)).toArray) x (updF V b u) ⟨setF q.fl b ⟨l, df, cd⟩, q.fresh, q.elder⟩ ∧ RqS T w x V T (w1.setRow x.g (rqC x (updF V b u) (setF q.fl b ⟨l, df, cd⟩)).toArray) (updF V b u) := by
 have hgx := h.lt
 have hug : ∀ k, u.ownBlock = some k → k ≠ x.g ∧ ¬ T k := fun k hk => by
  have h1 := hf k hk
  exact ⟨by omega, fun e => by have := h.there k e; omega⟩
 have hb1 := (hB.block _ hgx).trans h.blk
 refine h.put (i := b) (u := u) (T' := T) (by omega) (((Only.of_quiet hB).trans (only_setRow w1 x.g _) (fun i _ e => .inl e))) (fun k hk => .inr (hf k hk)) (fun k hk => hk) (fun k hk => .inl hk)
  (fun k hk => by have h1 := h.there k hk; have h2 := hB.size; simp [World.setRow]; omega) hug (setRow_heap w1 x.g _ _ _ (0, 0) hb1) (fun c _ hc => by dsimp only; rw [setF_other _ _ hc]) (fun _ => rfl) (fun _ => rfl)
  ⟨fun _ => ?_, fun e => by omega, fun e => by omega⟩
 dsimp only
 rw [setF_same]
 exact OwnK.only (OwnP.base hu (Nat.zero_le _)) (only_setRow w1 x.g _) (fun g hg e => (hug g hg).1 e) (fun k hk e => h.apt (e ▸ hk))
theorem IsRq.new_fr (h : IsRq T w x V q) (hB : Below w.heap.size w w1) {u : Value} {l : List Nat} (hu : OwnN w1 w.heap.size u (natsI l)) :
 IsRq T (w1.setRow x.g (rqC x (updF V 16 u) q.fl).toArray) x (updF V 16 u) ⟨q.fl, l, q.elder⟩ ∧ RqS T w x V T (w1.setRow x.g (rqC x (updF V 16 u) q.fl).toArray) (updF V 16 u) := by
 have hgx := h.lt
 have hug : ∀ k, u.ownBlock = some k → k ≠ x.g ∧ ¬ T k := fun k hk => by
  have h1 := hu.new k hk
  exact ⟨by omega, fun e => by have := h.there k e; omega⟩
 have hb1 := (hB.block _ hgx).trans h.blk
 exact h.put (i := 16) (u := u) (T' := T) (q' := ⟨q.fl, l, q.elder⟩) (by omega) (((Only.of_quiet hB).trans (only_setRow w1 x.g _) (fun i _ e => .inl e))) (fun k hk => .inr (hu.new k hk)) (fun k hk => hk) (fun k hk => .inl hk)
  (fun k hk => by have h1 := h.there k hk; have h2 := hB.size; simp [World.setRow]; omega) hug (setRow_heap w1 x.g _ _ _ (0, 0) hb1) (fun c _ hc => rfl) (fun e => absurd rfl e) (fun _ => rfl)
  ⟨fun e => by omega, fun _ => ⟨owns_only hu.base0.1 (only_setRow w1 x.g _) (fun g hg e => (hug g hg).1 e), hu.2⟩, fun e => by omega⟩
theorem IsRq.new_el (h : IsRq T w x V q) (hB : Below w.heap.size w w1) {u : Value} {l : List Nat} (hu : OwnN w1 w.heap.size u (natsI l)) :
 IsRq T (w1.setRow x.g (rqC x (updF V 17 u) q.fl).toArray) x (updF V 17 u) ⟨q.fl, q.fresh, l⟩ ∧ RqS T w x V T (w1.setRow x.g (rqC x (updF V 17 u) q.fl).toArray) (updF V 17 u) := by
 have hgx := h.lt
 have hug : ∀ k, u.ownBlock = some k → k ≠ x.g ∧ ¬ T k := fun k hk => by
  have h1 := hu.new k hk
  exact ⟨by omega, fun e => by have := h.there k e; omega⟩
 have hb1 := (hB.block _ hgx).trans h.blk
 exact h.put (i := 17) (u := u) (T' := T) (q' := ⟨q.fl, q.fresh, l⟩) (by omega) (((Only.of_quiet hB).trans (only_setRow w1 x.g _) (fun i _ e => .inl e))) (fun k hk => .inr (hu.new k hk)) (fun k hk => hk) (fun k hk => .inl hk)
  (fun k hk => by have h1 := h.there k hk; have h2 := hB.size; simp [World.setRow]; omega) hug (setRow_heap w1 x.g _ _ _ (0, 0) hb1) (fun c _ hc => rfl) (fun _ => rfl) (fun e => absurd rfl e)
  ⟨fun e => by omega, fun e => by omega, fun _ => ⟨owns_only hu.base0.1 (only_setRow w1 x.g _) (fun g hg e => (hug g hg).1 e), hu.2⟩⟩
theorem IsRq.app_el (h : IsRq T w x V q) (ho : Only (fun k => (V 17).ownBlock = some k) w w1) {u : Value} {l : List Nat} (hu : OwnN w1 0 u (natsI l)) (hf : ∀ k, u.ownBlock = some k → (V 17).ownBlock = some k ∨ w.heap.size ≤ k) :
 IsRq T (w1.setRow x.g (rqC x (updF V 17 u) q.fl).toArray) x (updF V 17 u) ⟨q.fl, q.fresh, l⟩ ∧ RqS T w x V T (w1.setRow x.g (rqC x (updF V 17 u) q.fl).toArray) (updF V 17 u) := by
 have hgx := h.lt
 have hug : ∀ k, u.ownBlock = some k → k ≠ x.g ∧ ¬ T k := fun k hk => by
  rcases hf k hk with h1 | h1
  ·exact h.apart 17 (by omega) k h1
  ·exact ⟨by omega, fun e => by have := h.there k e; omega⟩
 have hb1 := ho.at_ h.blk (fun e => (h.apart 17 (by omega) _ e).1 rfl)
 exact h.put (i := 17) (u := u) (T' := T) (q' := ⟨q.fl, q.fresh, l⟩) (by omega) ((ho.mono fun k _ e => .inr e).setRow (g := x.g) (fun _ => .inl rfl) _) hf (fun k hk => hk) (fun k hk => .inl hk)
  (fun k hk => by have h1 := h.there k hk; have h2 := ho.size; simp [World.setRow]; omega) hug (setRow_heap w1 x.g _ _ _ (0, 0) hb1) (fun c _ hc => rfl) (fun _ => rfl) (fun e => absurd rfl e)
  ⟨fun e => by omega, fun e => by omega, fun _ => ⟨owns_only hu.1 (only_setRow w1 x.g _) (fun g hg e => (hug g hg).1 e), hu.2⟩⟩
end
end Go.Proofs.YtndkmgcmegcieaaGreatDoor
