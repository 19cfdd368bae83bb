/-
  POOL: the object: its block known whole by a function of its queues; the queues side by side.
-/
import Derived.Test.YtndkmgcmegcieaaGreatDoorMgF
namespace Go.Proofs.YtndkmgcmegcieaaGreatDoor
open Go.ChangeShapes Go.WideShapes Go.ChangeAt Go.RowKit Go.Deep
set_option linter.unusedVariables false
set_option linter.unusedSimpArgs false
structure Qs where
 x : Rq
 V : Nat → Value
 q : Qu
structure Hd where
 seed : BitVec 32
 tg : Int
 iv : Int
 mp : Int
 mb : Int
def ptrQ : Option Qs → Value
 | none => .pointer none
 | some s => .pointer (some ⟨s.x.g, 0, none⟩)
def hdC (h : Hd) : List Value := [.int .u32 (uv h.seed), .int .i64 h.tg, .int .i64 h.iv, .int .i64 h.mp, .int .i64 h.mb]
def plC (h : Hd) (X : Nat → Option Qs) : List Value := hdC h ++ (List.range 128).map fun k => ptrQ (X k)
theorem plC_len (h : Hd) (X : Nat → Option Qs) : (plC h X).length = 133 := by unfold plC hdC; simp
theorem plC_get (h : Hd) (X : Nat → Option Qs) {k : Nat} (hk : k < 128) : (plC h X)[5 + k]? = some (ptrQ (X k)) := by
 unfold plC
 rw [List.getElem?_append_right (by show 5 ≤ 5 + k; omega), List.getElem?_map]
 have e : 5 + k - (hdC h).length = k := by show 5 + k - 5 = k; omega
 rw [e, List.getElem?_range hk]
 rfl
theorem plC_congr (h : Hd) {X Y : Nat → Option Qs} (hxy : ∀ k, k < 128 → ptrQ (X k) = ptrQ (Y k)) : plC h X = plC h Y := by
 unfold plC
 rw [List.map_congr_left fun k hk => hxy k (List.mem_range.1 hk)]
theorem plC_set (h : Hd) (X : Nat → Option Qs) {k : Nat} (hk : k < 128) (o : Option Qs) : (plC h X).set (5 + k) (ptrQ o) = plC h (updF X k o) := by
 apply List.ext_getElem?
 intro i
 rw [List.getElem?_set]
 by_cases e : 5 + k = i
 ·subst e
  rw [if_pos rfl, plC_get _ _ hk, updF_same, if_pos (by rw [plC_len]; omega)]
 ·rw [if_neg e]
  by_cases h5 : i < 5
  ·unfold plC
   rw [List.getElem?_append_left (by show i < 5; omega), List.getElem?_append_left (by show i < 5; omega)]
  ·obtain ⟨j, rfl⟩ : ∃ j, i = 5 + j := ⟨i - 5, by omega⟩
   by_cases hj : j < 128
   ·rw [plC_get _ _ hj, plC_get _ _ hj, updF_other _ _ (by omega)]
   ·rw [List.getElem?_eq_none (by rw [plC_len]; omega), List.getElem?_eq_none (by rw [plC_len]; omega)]
def rowQ (X : Nat → Option Qs) (i : Nat) : List Value := [ptrQ (X (8 * i)), ptrQ (X (8 * i + 1)), ptrQ (X (8 * i + 2)), ptrQ (X (8 * i + 3)), ptrQ (X (8 * i + 4)), ptrQ (X (8 * i + 5)), ptrQ (X (8 * i + 6)), ptrQ (X (8 * i + 7))]
theorem rowQ_get (X : Nat → Option Qs) (i : Nat) {t : Nat} (ht : t < 8) : (rowQ X i)[t]? = some (ptrQ (X (8 * i + t))) := by
 rcases (show t = 0 ∨ t = 1 ∨ t = 2 ∨ t = 3 ∨ t = 4 ∨ t = 5 ∨ t = 6 ∨ t = 7 by omega) with rfl | rfl | rfl | rfl | rfl | rfl | rfl | rfl <;> rfl
theorem ptrQ_one (o : Option Qs) : (ptrQ o).oneCell' = true := by cases o <;> rfl
structure QOk (T : Nat → Prop) (w : World) (h : Hd) (s : Qs) : Prop where
 is : IsCq T w s.x s.V s.q
 sd : s.x.seed = uv h.seed
 tg : s.x.tg = h.tg
 iv : s.x.iv = h.iv
 inv : InvQ (bkQ h.seed) s.q
 few : FewC s.q
structure IsPool (T : Nat → Prop) (w : World) (g : Nat) (h : Hd) (X : Nat → Option Qs) : Prop where
 blk : w.heap[g]? = some (.cells (plC h X).toArray 57 (0, 0))
 qs : ∀ k, k < 128 → ∀ s, X k = some s → QOk T w h s
 apart : ∀ k, k < 128 → ∀ j, j < 128 → k ≠ j → ∀ s t, X k = some s → X j = some t → ∀ i, FootC s.x s.V i → ¬ FootC t.x t.V i
 own : ∀ k, k < 128 → ∀ s, X k = some s → ¬ FootC s.x s.V g
 gt : ¬ T g
 there : ∀ k, T k → k < w.heap.size
def FootP (g : Nat) (X : Nat → Option Qs) (i : Nat) : Prop := i = g ∨ ∃ k s, k < 128 ∧ X k = some s ∧ FootC s.x s.V i
structure PlS (T : Nat → Prop) (w : World) (g : Nat) (X : Nat → Option Qs) (T' : Nat → Prop) (w' : World) (X' : Nat → Option Qs) : Prop where
 only : Only (FootP g X) w w'
 fresh : ∀ k, FootP g X' k → FootP g X k ∨ w.heap.size ≤ k
 ft : ∀ k, T' k → T k ∨ w.heap.size ≤ k
 tt : ∀ k, T k → T' k
theorem IsCq.foot {T : Nat → Prop} {w : World} {x : Rq} {V : Nat → Value} {q : Qu} (h : IsCq T w x V q) {i : Nat} (hi : FootC x V i) : ¬ T i := by
 rcases hi with rfl | ⟨j, hj, e⟩
 ·exact h.apt
 ·exact (h.apart j hj i e).2
theorem IsCq.grow {T T' S : Nat → Prop} {w w' : World} {x : Rq} {V : Nat → Value} {q : Qu} (h : IsCq T w x V q) (ho : Only S w w') (hf : ∀ k, FootC x V k → ¬ S k) (ht : ∀ k, T k → ¬ S k)
 (tt : ∀ k, T k → T' k) (ft : ∀ k, T' k → T k ∨ w.heap.size ≤ k) (tl : ∀ k, T' k → k < w'.heap.size) : IsCq T' w' x V q :=
 have h1 := h.only ho hf ht
 have hn : ∀ k, FootC x V k → ¬ T' k := fun k hk e => by
  rcases ft k e with e | e
  ·exact h.foot hk e
  ·have := h.lts hk; omega
 {blk := h1.blk
  pk := fun b hb => (h1.pk b hb).mono tt
  it := h1.it
  fr := h1.fr
  el := h1.el
  own := h1.own
  apart := fun i hi k hk => ⟨(h1.apart i hi k hk).1, hn k (.inr ⟨i, hi, hk⟩)⟩
  there := tl
  apt := hn _ (.inl rfl) }
section
variable {T T' T2 S : Nat → Prop} {w w' w2 : World} {g : Nat} {h : Hd} {X X' X2 : Nat → Option Qs}
theorem IsPool.lt (hp : IsPool T w g h X) : g < w.heap.size := lt_blk hp.blk
theorem IsPool.lts (hp : IsPool T w g h X) {i : Nat} (hi : FootP g X i) : i < w.heap.size := by
 rcases hi with rfl | ⟨k, s, hk, hs, hf⟩
 ·exact hp.lt
 ·exact (hp.qs k hk s hs).is.lts hf
theorem IsPool.foot (hp : IsPool T w g h X) {i : Nat} (hi : FootP g X i) : ¬ T i := by
 rcases hi with rfl | ⟨k, s, hk, hs, hf⟩
 ·exact hp.gt
 ·exact (hp.qs k hk s hs).is.foot hf
theorem IsPool.only (hp : IsPool T w g h X) (ho : Only S w w') (hf : ∀ k, FootP g X k → ¬ S k) (ht : ∀ k, T k → ¬ S k) : IsPool T w' g h X where
 blk := ho.at_ hp.blk (hf _ (.inl rfl))
 qs := fun k hk s hs => have q := hp.qs k hk s hs
  ⟨q.is.only ho (fun i hi => hf i (.inr ⟨k, s, hk, hs, hi⟩)) ht, q.sd, q.tg, q.iv, q.inv, q.few⟩
 apart := hp.apart
 own := hp.own
 gt := hp.gt
 there := fun k hk => Nat.lt_of_lt_of_le (hp.there k hk) ho.size
theorem IsPool.quiet (hp : IsPool T w g h X) (hb : Below w.heap.size w w') : IsPool T w' g h X :=
 hp.only (S := fun _ => False) (Only.of_quiet hb) (fun _ _ e => e) (fun _ _ e => e)
theorem PlS.refl : PlS T w g X T w X := ⟨Only.refl _ _, fun k h => .inl h, fun k h => .inl h, fun k h => h⟩
theorem PlS.trans (a : PlS T w g X T' w' X') (b : PlS T' w' g X' T2 w2 X2) : PlS T w g X T2 w2 X2 where
 only := a.only.trans b.only fun i hi e => by
  rcases a.fresh i e with h1 | h1
  ·exact h1
  ·omega
 fresh := fun i e => by
  rcases b.fresh i e with h1 | h1
  ·exact a.fresh i h1
  ·exact .inr (Nat.le_trans a.only.size h1)
 ft := fun i e => by
  rcases b.ft i e with h1 | h1
  ·exact a.ft i h1
  ·exact .inr (Nat.le_trans a.only.size h1)
 tt := fun i e => b.tt i (a.tt i e)
theorem PlS.quiet (a : PlS T w g X T' w' X') (hb : Below w'.heap.size w' w2) : PlS T w g X T' w2 X' := ⟨a.only.then_quiet hb, a.fresh, a.ft, a.tt⟩
theorem PlS.over (a : PlS T w g X T' w' X') (ho : Only S w' w2) (hS : ∀ k, S k → w.heap.size ≤ k) : PlS T w g X T' w2 X' :=
 ⟨a.only.trans ho fun i hi e => by have := hS i e; omega, a.fresh, a.ft, a.tt⟩
theorem PlS.from_ (hb : Below w.heap.size w w') (a : PlS T w' g X T' w2 X') : PlS T w g X T' w2 X' :=
 ⟨(Only.of_quiet hb).trans a.only fun _ _ e => e, fun k e => (a.fresh k e).imp id (Nat.le_trans hb.size), fun k e => (a.ft k e).imp id (Nat.le_trans hb.size), a.tt⟩
theorem IsPool.cell (hp : IsPool T w g h X) {k : Nat} (hk : k < 128) : w.cell? ⟨g, 5 + k, none⟩ = some (ptrQ (X k)) := by
 have e := (block_range hp.blk) (5 + k) _ (plC_get h X hk)
 simpa using e
theorem IsPool.row (hp : IsPool T w g h X) {i : Nat} (hi : i < 16) : w.rangeAt g (5 + i * 8) (rowQ X i) := fun t v hv => by
 have ht : t < 8 := by
  by_cases e : t < 8
  ·exact e
  ·rw [List.getElem?_eq_none (by show 8 ≤ t; omega)] at hv; cases hv
 rw [rowQ_get X i ht] at hv
 obtain rfl := Option.some.inj hv
 have e := hp.cell (k := 8 * i + t) (by omega)
 rw [show 5 + i * 8 + t = 5 + (8 * i + t) by omega]
 exact e
theorem IsPool.head (hp : IsPool T w g h X) : w.cell? ⟨g, 0, none⟩ = some (.int .u32 (uv h.seed)) ∧ w.cell? ⟨g, 1, none⟩ = some (.int .i64 h.tg) ∧ w.cell? ⟨g, 2, none⟩ = some (.int .i64 h.iv) ∧ w.cell? ⟨g, 3, none⟩ = some (.int .i64 h.mp) ∧ w.cell? ⟨g, 4, none⟩ = some (.int .i64 h.mb) := by
 have e := block_range hp.blk
 refine ⟨?_, ?_, ?_, ?_, ?_⟩
 ·simpa using e 0 _ (by simp [plC, hdC])
 ·simpa using e 1 _ (by simp [plC, hdC])
 ·simpa using e 2 _ (by simp [plC, hdC])
 ·simpa using e 3 _ (by simp [plC, hdC])
 ·simpa using e 4 _ (by simp [plC, hdC])
theorem IsPool.call (hp : IsPool T w g h X) {k : Nat} (hk : k < 128) {s : Qs} (hs : X k = some s) {V' : Nat → Value} {q' : Qu} (hQ : IsCq T' w' s.x V' q') (hC : CqS T w s.x s.V T' w' V') (hI : InvQ (bkQ h.seed) q') (hF : FewC q') :
 IsPool T' w' g h (updF X k (some ⟨s.x, V', q'⟩)) ∧ PlS T w g X T' w' (updF X k (some ⟨s.x, V', q'⟩)) := by
 have hgn : ¬ FootC s.x s.V g := hp.own k hk s hs
 have hsl := fun i (hi : FootC s.x s.V i) => (hp.qs k hk s hs).is.lts hi
 have hts : ∀ i, T i → ¬ FootC s.x s.V i := fun i hi e => (hp.qs k hk s hs).is.foot e hi
 constructor
 ·refine ⟨?_, ?_, ?_, ?_, ?_, hQ.there⟩
  ·rw [← plC_congr h (X := X) fun j hj => ?_]
   ·exact hC.only.at_ hp.blk hgn
   ·by_cases e : j = k
    ·subst e; rw [hs, updF_same]; rfl
    ·rw [updF_other _ _ e]
  ·intro j hj t ht
   by_cases e : j = k
   ·subst e
    rw [updF_same] at ht
    obtain rfl := Option.some.inj ht
    have q := hp.qs j hj s hs
    exact ⟨hQ, q.sd, q.tg, q.iv, hI, hF⟩
   ·rw [updF_other _ _ e] at ht
    have q := hp.qs j hj t ht
    exact ⟨q.is.grow hC.only (fun i hi => hp.apart j hj k hk e t s ht hs i hi) hts hC.tt hC.ft hQ.there, q.sd, q.tg, q.iv, q.inv, q.few⟩
  ·intro i hi j hj hij a b ha hb m hm hm2
   by_cases e : i = k
   ·subst e
    rw [updF_same] at ha
    obtain rfl := Option.some.inj ha
    rw [updF_other _ _ (fun e => hij e.symm)] at hb
    rcases hC.fresh m hm with h1 | h1
    ·exact hp.apart i hi j hj hij s b hs hb m h1 hm2
    ·have := (hp.qs j hj b hb).is.lts hm2; omega
   ·rw [updF_other _ _ e] at ha
    by_cases e2 : j = k
    ·subst e2
     rw [updF_same] at hb
     obtain rfl := Option.some.inj hb
     rcases hC.fresh m hm2 with h1 | h1
     ·exact hp.apart i hi j hj hij a s ha hs m hm h1
     ·have := (hp.qs i hi a ha).is.lts hm; omega
    ·rw [updF_other _ _ e2] at hb
     exact hp.apart i hi j hj hij a b ha hb m hm hm2
  ·intro j hj t ht hg
   by_cases e : j = k
   ·subst e
    rw [updF_same] at ht
    obtain rfl := Option.some.inj ht
    rcases hC.fresh g hg with h1 | h1
    ·exact hgn h1
    ·have := hp.lt; omega
   ·rw [updF_other _ _ e] at ht
    exact hp.own j hj t ht hg
  ·intro e
   rcases hC.ft g e with h1 | h1
   ·exact hp.gt h1
   ·have := hp.lt; omega
 ·refine ⟨hC.only.mono fun i _ e => .inr ⟨k, s, hk, hs, e⟩, fun i hi => ?_, hC.ft, hC.tt⟩
  rcases hi with e | ⟨j, t, hj, ht, e⟩
  ·exact .inl (.inl e)
  ·by_cases e2 : j = k
   ·subst e2
    rw [updF_same] at ht
    obtain rfl := Option.some.inj ht
    rcases hC.fresh i e with h1 | h1
    ·exact .inl (.inr ⟨j, s, hj, hs, h1⟩)
    ·exact .inr h1
   ·rw [updF_other _ _ e2] at ht
    exact .inl (.inr ⟨j, t, hj, ht, e⟩)
theorem IsPool.turn (hp : IsPool T w g h X) {k : Nat} (hk : k < 128) {o : Option Qs} (ho : ∀ s, o = some s → QOk T (w.setRow g (plC h (updF X k o)).toArray) h s ∧ ¬ FootC s.x s.V g ∧ ∀ j, j < 128 → ∀ t, X j = some t → ∀ i, FootC s.x s.V i → ¬ FootC t.x t.V i) :
 IsPool T (w.setRow g (plC h (updF X k o)).toArray) g h (updF X k o) := by
 have hO : Only (· = g) w (w.setRow g (plC h (updF X k o)).toArray) := only_setRow _ _ _
 refine ⟨setRow_heap w g _ _ _ (0, 0) hp.blk, ?_, ?_, ?_, hp.gt, fun i hi => Nat.lt_of_lt_of_le (hp.there i hi) hO.size⟩
 ·intro j hj t ht
  by_cases e : j = k
  ·subst e
   rw [updF_same] at ht
   exact (ho t ht).1
  ·rw [updF_other _ _ e] at ht
   have q := hp.qs j hj t ht
   exact ⟨q.is.only hO (fun i hi e => hp.own j hj t ht (e ▸ hi)) (fun i hi e => hp.gt (e ▸ hi)), q.sd, q.tg, q.iv, q.inv, q.few⟩
 ·intro i hi j hj hij a b ha hb m hm hm2
  by_cases e : i = k
  ·subst e
   rw [updF_same] at ha
   rw [updF_other _ _ (fun e => hij e.symm)] at hb
   exact (ho a ha).2.2 j hj b hb m hm hm2
  ·rw [updF_other _ _ e] at ha
   by_cases e2 : j = k
   ·subst e2
    rw [updF_same] at hb
    exact (ho b hb).2.2 i hi a ha m hm2 hm
   ·rw [updF_other _ _ e2] at hb
    exact hp.apart i hi j hj hij a b ha hb m hm hm2
 ·intro j hj t ht
  by_cases e : j = k
  ·subst e
   rw [updF_same] at ht
   exact (ho t ht).2.1
  ·rw [updF_other _ _ e] at ht
   exact hp.own j hj t ht
end
def mOf (X : Nat → Option Qs) (k : Nat) : Qu := match X k with | some s => s.q | none => quZ
theorem mOf_some {X : Nat → Option Qs} {k : Nat} {s : Qs} (h : X k = some s) : mOf X k = s.q := by unfold mOf; rw [h]
theorem mOf_none {X : Nat → Option Qs} {k : Nat} (h : X k = none) : mOf X k = quZ := by unfold mOf; rw [h]
theorem mOf_upd (X : Nat → Option Qs) (k : Nat) (s : Qs) : mOf (updF X k (some s)) = updF (mOf X) k s.q := by
 funext j
 by_cases e : j = k
 ·subst e; rw [updF_same, mOf_some (updF_same X j (some s))]
 ·rw [updF_other _ _ e]; unfold mOf; rw [updF_other _ _ e]
def allP (M : Nat → Qu) (n : Nat) : List Pk := (List.range n).flatMap fun k => allQ (M k)
theorem allP_succ (M : Nat → Qu) (n : Nat) : allP M (n + 1) = allP M n ++ allQ (M n) := by unfold allP; rw [List.range_succ, List.flatMap_append]; simp
theorem allTo_Z : ∀ n, allTo quZ n = []
 | 0 => rfl
 | n + 1 => by rw [allTo_succ, allTo_Z n]; rfl
theorem allQ_Z : allQ quZ = [] := allTo_Z 16
theorem lenTo_all (q : Qu) : ∀ n, lenTo q n = (allTo q n).length
 | 0 => rfl
 | n + 1 => by rw [lenTo_succ, allTo_succ, List.length_append, lenTo_all q n]
theorem bytesF_app (a b : List Pk) : bytesF (a ++ b) = bytesF a + bytesF b := by
 induction a with
 | nil => simp [bytesF]
 | cons p r ih => rw [List.cons_append, bytesF_cons, bytesF_cons, ih]; omega
theorem bytTo_all (q : Qu) : ∀ n, bytTo q n = bytesF (allTo q n)
 | 0 => rfl
 | n + 1 => by rw [bytTo_succ, allTo_succ, bytesF_app, bytTo_all q n]
theorem bytesF_perm {a b : List Pk} (h : a.Perm b) : bytesF a = bytesF b := by
 induction h with
 | nil => rfl
 | cons p _ ih => rw [bytesF_cons, bytesF_cons, ih]
 | swap p q l => rw [bytesF_cons, bytesF_cons, bytesF_cons, bytesF_cons]; omega
 | trans _ _ i1 i2 => exact i1.trans i2
end Go.Proofs.YtndkmgcmegcieaaGreatDoor
