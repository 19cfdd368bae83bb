/-
  THE REFERENCE's POOL: the object: its block known whole by a function of its queues (17 rows of 8); the queues side by side.
-/
import Derived.Test.YtndkmgcmegcieaaGreatDoorPoolA
import Derived.Test.YtndkmgcmegcieaaGreatDoorFqRa
namespace Go.Proofs.YtndkmgcmegcieaaGreatDoor
open Go.ChangeShapes Go.WideShapes Go.ChangeAt Go.RowKit Go.Deep
set_option linter.unusedVariables false
set_option linter.unusedSimpArgs false
def rpC (h : Hd) (X : Nat → Option Qs) : List Value := hdC h ++ (List.range 136).map fun k => ptrQ (X k)
theorem rpC_len (h : Hd) (X : Nat → Option Qs) : (rpC h X).length = 141 := by unfold rpC hdC; simp
theorem rpC_get (h : Hd) (X : Nat → Option Qs) {k : Nat} (hk : k < 136) : (rpC h X)[5 + k]? = some (ptrQ (X k)) := by
 unfold rpC
 rw [List.getElem?_append_right (by show 5 ≤ 5 + k; omega), List.getElem?_map]
 have e : 5 + k - (hdC h).length = k := by show 5 + k - 5 = k; omega
 rw [e, List.getElem?_range hk]
 rfl
theorem rpC_congr (h : Hd) {X Y : Nat → Option Qs} (hxy : ∀ k, k < 136 → ptrQ (X k) = ptrQ (Y k)) : rpC h X = rpC h Y := by
 unfold rpC
 rw [List.map_congr_left fun k hk => hxy k (List.mem_range.1 hk)]
theorem rpC_set (h : Hd) (X : Nat → Option Qs) {k : Nat} (hk : k < 136) (o : Option Qs) : (rpC h X).set (5 + k) (ptrQ o) = rpC h (updF X k o) := by
 apply List.ext_getElem?
 intro i
 rw [List.getElem?_set]
 by_cases e : 5 + k = i
 ·subst e
  rw [if_pos rfl, rpC_get _ _ hk, updF_same, if_pos (by rw [rpC_len]; omega)]
 ·rw [if_neg e]
  by_cases h5 : i < 5
  ·unfold rpC
   rw [List.getElem?_append_left (by show i < 5; omega), List.getElem?_append_left (by show i < 5; omega)]
  ·obtain ⟨j, rfl⟩ : ∃ j, i = 5 + j := ⟨i - 5, by omega⟩
   by_cases hj : j < 136
   ·rw [rpC_get _ _ hj, rpC_get _ _ hj, updF_other _ _ (by omega)]
   ·rw [List.getElem?_eq_none (by rw [rpC_len]; omega), List.getElem?_eq_none (by rw [rpC_len]; omega)]
structure ROk (T : Nat → Prop) (w : World) (h : Hd) (s : Qs) : Prop where
 is : IsRq T w s.x s.V s.q
 sd : s.x.seed = uv h.seed
 tg : s.x.tg = h.tg
 iv : s.x.iv = h.iv
 inv : InvQ (bkQ h.seed) s.q
 few : FewC s.q
structure IsRpl (T : Nat → Prop) (w : World) (g : Nat) (h : Hd) (X : Nat → Option Qs) : Prop where
 blk : w.heap[g]? = some (.cells (rpC h X).toArray 66 (0, 0))
 qs : ∀ k, k < 136 → ∀ s, X k = some s → ROk T w h s
 apart : ∀ k, k < 136 → ∀ j, j < 136 → k ≠ j → ∀ s t, X k = some s → X j = some t → ∀ i, FootR s.x s.V i → ¬ FootR t.x t.V i
 own : ∀ k, k < 136 → ∀ s, X k = some s → ¬ FootR s.x s.V g
 gt : ¬ T g
 there : ∀ k, T k → k < w.heap.size
def FootL (g : Nat) (X : Nat → Option Qs) (i : Nat) : Prop := i = g ∨ ∃ k s, k < 136 ∧ X k = some s ∧ FootR s.x s.V i
structure RlS (T : Nat → Prop) (w : World) (g : Nat) (X : Nat → Option Qs) (T' : Nat → Prop) (w' : World) (X' : Nat → Option Qs) : Prop where
 only : Only (FootL g X) w w'
 fresh : ∀ k, FootL g X' k → FootL g X k ∨ w.heap.size ≤ k
 ft : ∀ k, T' k → T k ∨ w.heap.size ≤ k
 tt : ∀ k, T k → T' k
theorem IsRq.grow {T T' S : Nat → Prop} {w w' : World} {x : Rq} {V : Nat → Value} {q : Qu} (h : IsRq T w x V q) (ho : Only S w w') (hf : ∀ k, FootR x V k → ¬ S k) (ht : ∀ k, T k → ¬ S k)
 (tt : ∀ k, T k → T' k) (ft : ∀ k, T' k → T k ∨ w.heap.size ≤ k) (tl : ∀ k, T' k → k < w'.heap.size) : IsRq T' w' x V q :=
 have h1 := h.only ho hf ht
 have hn : ∀ k, FootR x V k → ¬ T' k := fun k hk e => by
  rcases ft k e with e | e
  ·exact h.foot hk e
  ·have := h.lts hk; omega
 {blk := h1.blk
  pk := fun b hb => OwnP.mono0 (h1.pk b hb) tt (fun g hg => hn g (.inr ⟨b, by omega, hg⟩))
  fr := h1.fr
  el := h1.el
  own := h1.own
  apart := fun i hi k hk => ⟨(h1.apart i hi k hk).1, hn k (.inr ⟨i, hi, hk⟩)⟩
  there := tl
  apt := hn _ (.inl rfl) }
section
variable {T T' T2 S : Nat → Prop} {w w' w2 : World} {g : Nat} {h : Hd} {X X' X2 : Nat → Option Qs}
theorem IsRpl.lt (hp : IsRpl T w g h X) : g < w.heap.size := lt_blk hp.blk
theorem IsRpl.lts (hp : IsRpl T w g h X) {i : Nat} (hi : FootL g X i) : i < w.heap.size := by
 rcases hi with rfl | ⟨k, s, hk, hs, hf⟩
 ·exact hp.lt
 ·exact (hp.qs k hk s hs).is.lts hf
theorem IsRpl.foot (hp : IsRpl T w g h X) {i : Nat} (hi : FootL g X i) : ¬ T i := by
 rcases hi with rfl | ⟨k, s, hk, hs, hf⟩
 ·exact hp.gt
 ·exact (hp.qs k hk s hs).is.foot hf
theorem IsRpl.only (hp : IsRpl T w g h X) (ho : Only S w w') (hf : ∀ k, FootL g X k → ¬ S k) (ht : ∀ k, T k → ¬ S k) : IsRpl T w' g h X where
 blk := ho.at_ hp.blk (hf _ (.inl rfl))
 qs := fun k hk s hs => have q := hp.qs k hk s hs
  ⟨q.is.only ho (fun i hi => hf i (.inr ⟨k, s, hk, hs, hi⟩)) ht, q.sd, q.tg, q.iv, q.inv, q.few⟩
 apart := hp.apart
 own := hp.own
 gt := hp.gt
 there := fun k hk => Nat.lt_of_lt_of_le (hp.there k hk) ho.size
theorem IsRpl.quiet (hp : IsRpl T w g h X) (hb : Below w.heap.size w w') : IsRpl T w' g h X :=
 hp.only (S := fun _ => False) (Only.of_quiet hb) (fun _ _ e => e) (fun _ _ e => e)
theorem RlS.refl : RlS T w g X T w X := ⟨Only.refl _ _, fun k h => .inl h, fun k h => .inl h, fun k h => h⟩
theorem RlS.trans (a : RlS T w g X T' w' X') (b : RlS T' w' g X' T2 w2 X2) : RlS T w g X T2 w2 X2 where
 only := a.only.trans b.only fun i hi e => by
  rcases a.fresh i e with h1 | h1
  ·exact h1
  ·omega
 fresh := fun i e => by
  rcases b.fresh i e with h1 | h1
  ·exact a.fresh i h1
  ·exact .inr (Nat.le_trans a.only.size h1)
 ft := fun i e => by
  rcases b.ft i e with h1 | h1
  ·exact a.ft i h1
  ·exact .inr (Nat.le_trans a.only.size h1)
 tt := fun i e => b.tt i (a.tt i e)
theorem RlS.quiet (a : RlS T w g X T' w' X') (hb : Below w'.heap.size w' w2) : RlS T w g X T' w2 X' := ⟨a.only.then_quiet hb, a.fresh, a.ft, a.tt⟩
theorem RlS.over (a : RlS T w g X T' w' X') (ho : Only S w' w2) (hS : ∀ k, S k → w.heap.size ≤ k) : RlS T w g X T' w2 X' :=
 ⟨a.only.trans ho fun i hi e => by have := hS i e; omega, a.fresh, a.ft, a.tt⟩
theorem RlS.from_ (hb : Below w.heap.size w w') (a : RlS T w' g X T' w2 X') : RlS T w g X T' w2 X' :=
 ⟨(Only.of_quiet hb).trans a.only fun _ _ e => e, fun k e => (a.fresh k e).imp id (Nat.le_trans hb.size), fun k e => (a.ft k e).imp id (Nat.le_trans hb.size), a.tt⟩
theorem IsRpl.cell (hp : IsRpl T w g h X) {k : Nat} (hk : k < 136) : w.cell? ⟨g, 5 + k, none⟩ = some (ptrQ (X k)) := by
 have e := (block_range hp.blk) (5 + k) _ (rpC_get h X hk)
 simpa using e
theorem IsRpl.row (hp : IsRpl T w g h X) {i : Nat} (hi : i < 17) : w.rangeAt g (5 + i * 8) (rowQ X i) := fun t v hv => by
 have ht : t < 8 := by
  by_cases e : t < 8
  ·exact e
  ·rw [List.getElem?_eq_none (by show 8 ≤ t; omega)] at hv; cases hv
 rw [rowQ_get X i ht] at hv
 obtain rfl := Option.some.inj hv
 have e := hp.cell (k := 8 * i + t) (by omega)
 rw [show 5 + i * 8 + t = 5 + (8 * i + t) by omega]
 exact e
theorem IsRpl.head (hp : IsRpl T w g h X) : w.cell? ⟨g, 0, none⟩ = some (.int .u32 (uv h.seed)) ∧ w.cell? ⟨g, 1, none⟩ = some (.int .i64 h.tg) ∧ w.cell? ⟨g, 2, none⟩ = some (.int .i64 h.iv) ∧ w.cell? ⟨g, 3, none⟩ = some (.int .i64 h.mp) ∧ w.cell? ⟨g, 4, none⟩ = some (.int .i64 h.mb) := by
 have e := block_range hp.blk
 refine ⟨?_, ?_, ?_, ?_, ?_⟩
 ·simpa using e 0 _ (by simp [rpC, hdC])
 ·simpa using e 1 _ (by simp [rpC, hdC])
 ·simpa using e 2 _ (by simp [rpC, hdC])
 ·simpa using e 3 _ (by simp [rpC, hdC])
 ·simpa using e 4 _ (by simp [rpC, hdC])
theorem IsRpl.call (hp : IsRpl T w g h X) {k : Nat} (hk : k < 136) {s : Qs} (hs : X k = some s) {V' : Nat → Value} {q' : Qu} (hQ : IsRq T' w' s.x V' q') (hC : RqS T w s.x s.V T' w' V') (hI : InvQ (bkQ h.seed) q') (hF : FewC q') :
 IsRpl T' w' g h (updF X k (some ⟨s.x, V', q'⟩)) ∧ RlS T w g X T' w' (updF X k (some ⟨s.x, V', q'⟩)) := by
 have hgn : ¬ FootR s.x s.V g := hp.own k hk s hs
 have hsl := fun i (hi : FootR s.x s.V i) => (hp.qs k hk s hs).is.lts hi
 have hts : ∀ i, T i → ¬ FootR s.x s.V i := fun i hi e => (hp.qs k hk s hs).is.foot e hi
 constructor
 ·refine ⟨?_, ?_, ?_, ?_, ?_, hQ.there⟩
  ·rw [← rpC_congr h (X := X) fun j hj => ?_]
   ·exact hC.only.at_ hp.blk hgn
   ·by_cases e : j = k
    ·subst e; rw [hs, updF_same]; rfl
    ·rw [updF_other _ _ e]
  ·intro j hj t ht
   by_cases e : j = k
   ·subst e
    rw [updF_same] at ht
    obtain rfl := Option.some.inj ht
    have q := hp.qs j hj s hs
    exact ⟨hQ, q.sd, q.tg, q.iv, hI, hF⟩
   ·rw [updF_other _ _ e] at ht
    have q := hp.qs j hj t ht
    exact ⟨q.is.grow hC.only (fun i hi => hp.apart j hj k hk e t s ht hs i hi) hts hC.tt hC.ft hQ.there, q.sd, q.tg, q.iv, q.inv, q.few⟩
  ·intro i hi j hj hij a b ha hb m hm hm2
   by_cases e : i = k
   ·subst e
    rw [updF_same] at ha
    obtain rfl := Option.some.inj ha
    rw [updF_other _ _ (fun e => hij e.symm)] at hb
    rcases hC.fresh m hm with h1 | h1
    ·exact hp.apart i hi j hj hij s b hs hb m h1 hm2
    ·have := (hp.qs j hj b hb).is.lts hm2; omega
   ·rw [updF_other _ _ e] at ha
    by_cases e2 : j = k
    ·subst e2
     rw [updF_same] at hb
     obtain rfl := Option.some.inj hb
     rcases hC.fresh m hm2 with h1 | h1
     ·exact hp.apart i hi j hj hij a s ha hs m hm h1
     ·have := (hp.qs i hi a ha).is.lts hm; omega
    ·rw [updF_other _ _ e2] at hb
     exact hp.apart i hi j hj hij a b ha hb m hm hm2
  ·intro j hj t ht hg
   by_cases e : j = k
   ·subst e
    rw [updF_same] at ht
    obtain rfl := Option.some.inj ht
    rcases hC.fresh g hg with h1 | h1
    ·exact hgn h1
    ·have := hp.lt; omega
   ·rw [updF_other _ _ e] at ht
    exact hp.own j hj t ht hg
  ·intro e
   rcases hC.ft g e with h1 | h1
   ·exact hp.gt h1
   ·have := hp.lt; omega
 ·refine ⟨hC.only.mono fun i _ e => .inr ⟨k, s, hk, hs, e⟩, fun i hi => ?_, hC.ft, hC.tt⟩
  rcases hi with e | ⟨j, t, hj, ht, e⟩
  ·exact .inl (.inl e)
  ·by_cases e2 : j = k
   ·subst e2
    rw [updF_same] at ht
    obtain rfl := Option.some.inj ht
    rcases hC.fresh i e with h1 | h1
    ·exact .inl (.inr ⟨j, s, hj, hs, h1⟩)
    ·exact .inr h1
   ·rw [updF_other _ _ e2] at ht
    exact .inl (.inr ⟨j, t, hj, ht, e⟩)
theorem IsRpl.turn (hp : IsRpl T w g h X) {k : Nat} (hk : k < 136) {o : Option Qs} (ho : ∀ s, o = some s → ROk T (w.setRow g (rpC h (updF X k o)).toArray) h s ∧ ¬ FootR s.x s.V g ∧ ∀ j, j < 136 → ∀ t, X j = some t → ∀ i, FootR s.x s.V i → ¬ FootR t.x t.V i) :
 IsRpl T (w.setRow g (rpC h (updF X k o)).toArray) g h (updF X k o) := by
 have hO : Only (· = g) w (w.setRow g (rpC h (updF X k o)).toArray) := only_setRow _ _ _
 refine ⟨setRow_heap w g _ _ _ (0, 0) hp.blk, ?_, ?_, ?_, hp.gt, fun i hi => Nat.lt_of_lt_of_le (hp.there i hi) hO.size⟩
 ·intro j hj t ht
  by_cases e : j = k
  ·subst e
   rw [updF_same] at ht
   exact (ho t ht).1
  ·rw [updF_other _ _ e] at ht
   have q := hp.qs j hj t ht
   exact ⟨q.is.only hO (fun i hi e => hp.own j hj t ht (e ▸ hi)) (fun i hi e => hp.gt (e ▸ hi)), q.sd, q.tg, q.iv, q.inv, q.few⟩
 ·intro i hi j hj hij a b ha hb m hm hm2
  by_cases e : i = k
  ·subst e
   rw [updF_same] at ha
   rw [updF_other _ _ (fun e => hij e.symm)] at hb
   exact (ho a ha).2.2 j hj b hb m hm hm2
  ·rw [updF_other _ _ e] at ha
   by_cases e2 : j = k
   ·subst e2
    rw [updF_same] at hb
    exact (ho b hb).2.2 i hi a ha m hm2 hm
   ·rw [updF_other _ _ e2] at hb
    exact hp.apart i hi j hj hij a b ha hb m hm hm2
 ·intro j hj t ht
  by_cases e : j = k
  ·subst e
   rw [updF_same] at ht
   exact (ho t ht).2.1
  ·rw [updF_other _ _ e] at ht
   exact hp.own j hj t ht
end
end Go.Proofs.YtndkmgcmegcieaaGreatDoor
