/-
  POOL: the object: its block known whole by a function of its queues; the queues side by side.
-/
import Derived.Test.YtaibopaagjodoaaDoorMgF
namespace Go.Proofs.YtaibopaagjodoaaDoor
open Go.ChangeShapes Go.WideShapes Go.ChangeAt Go.RowKit Go.Deep
set_option linter.unusedVariables false
set_option linter.unusedSimpArgs false

/-- a queue of the pool: where it lies, its slices, what is in it. -/
structure Qs where
  x : Rq
  V : Nat → Value
  q : Qu
/-- what a pool is made of. -/
structure Hd where
  seed : BitVec 32
  tg : Int
  iv : Int
  mp : Int
  mb : Int
def ptrQ : Option Qs → Value
  | none => .pointer none
  | some s => .pointer (some ⟨s.x.g, 0, none⟩)
def hdC (h : Hd) : List Value := [.int .u32 (uv h.seed), .int .i64 h.tg, .int .i64 h.iv, .int .i64 h.mp, .int .i64 h.mb]
def plC (h : Hd) (X : Nat → Option Qs) : List Value := hdC h ++ (List.range 128).map fun k => ptrQ (X k)
theorem plC_len (h : Hd) (X : Nat → Option Qs) : (plC h X).length = 133 := by unfold plC hdC; simp
theorem plC_get (h : Hd) (X : Nat → Option Qs) {k : Nat} (hk : k < 128) : (plC h X)[5 + k]? = some (ptrQ (X k)) := by
  unfold plC
  rw [List.getElem?_append_right (by show 5 ≤ 5 + k; omega), List.getElem?_map]
  have e : 5 + k - (hdC h).length = k := by show 5 + k - 5 = k; omega
  rw [e, List.getElem?_range hk]
  rfl
theorem plC_congr (h : Hd) {X Y : Nat → Option Qs} (hxy : ∀ k, k < 128 → ptrQ (X k) = ptrQ (Y k)) : plC h X = plC h Y := by
  unfold plC
  rw [List.map_congr_left fun k hk => hxy k (List.mem_range.1 hk)]
theorem plC_set (h : Hd) (X : Nat → Option Qs) {k : Nat} (hk : k < 128) (o : Option Qs) : (plC h X).set (5 + k) (ptrQ o) = plC h (updF X k o) := by
  apply List.ext_getElem?
  intro i
  rw [List.getElem?_set]
  by_cases e : 5 + k = i
  · subst e
    rw [if_pos rfl, plC_get _ _ hk, updF_same, if_pos (by rw [plC_len]; omega)]
  · rw [if_neg e]
    by_cases h5 : i < 5
    · unfold plC
      rw [List.getElem?_append_left (by show i < 5; omega), List.getElem?_append_left (by show i < 5; omega)]
    · obtain ⟨j, rfl⟩ : ∃ j, i = 5 + j := ⟨i - 5, by omega⟩
      by_cases hj : j < 128
      · rw [plC_get _ _ hj, plC_get _ _ hj, updF_other _ _ (by omega)]
      · rw [List.getElem?_eq_none (by rw [plC_len]; omega), List.getElem?_eq_none (by rw [plC_len]; omega)]
/-- row i of its queues. -/
def rowQ (X : Nat → Option Qs) (i : Nat) : List Value := [ptrQ (X (8 * i)), ptrQ (X (8 * i + 1)), ptrQ (X (8 * i + 2)), ptrQ (X (8 * i + 3)), ptrQ (X (8 * i + 4)), ptrQ (X (8 * i + 5)), ptrQ (X (8 * i + 6)), ptrQ (X (8 * i + 7))]
theorem rowQ_get (X : Nat → Option Qs) (i : Nat) {t : Nat} (ht : t < 8) : (rowQ X i)[t]? = some (ptrQ (X (8 * i + t))) := by
  rcases (show t = 0 ∨ t = 1 ∨ t = 2 ∨ t = 3 ∨ t = 4 ∨ t = 5 ∨ t = 6 ∨ t = 7 by omega) with rfl | rfl | rfl | rfl | rfl | rfl | rfl | rfl <;> rfl
theorem ptrQ_one (o : Option Qs) : (ptrQ o).oneCell' = true := by cases o <;> rfl

/-- a queue of it. -/
structure QOk (T : Nat → Prop) (w : World) (h : Hd) (s : Qs) : Prop where
  is : IsCq T w s.x s.V s.q
  sd : s.x.seed = uv h.seed
  tg : s.x.tg = h.tg
  iv : s.x.iv = h.iv
  inv : InvQ (bkQ h.seed) s.q
  few : FewC s.q
/-- the pool lies at g. -/
structure IsPool (T : Nat → Prop) (w : World) (g : Nat) (h : Hd) (X : Nat → Option Qs) : Prop where
  blk : w.heap[g]? = some (.cells (plC h X).toArray 56 (0, 0))
  qs : ∀ k, k < 128 → ∀ s, X k = some s → QOk T w h s
  apart : ∀ k, k < 128 → ∀ j, j < 128 → k ≠ j → ∀ s t, X k = some s → X j = some t → ∀ i, FootC s.x s.V i → ¬ FootC t.x t.V i
  own : ∀ k, k < 128 → ∀ s, X k = some s → ¬ FootC s.x s.V g
  gt : ¬ T g
  there : ∀ k, T k → k < w.heap.size
/-- the blocks that it writes. -/
def FootP (g : Nat) (X : Nat → Option Qs) (i : Nat) : Prop := i = g ∨ ∃ k s, k < 128 ∧ X k = some s ∧ FootC s.x s.V i
/-- what a call on a pool leaves. -/
structure PlS (T : Nat → Prop) (w : World) (g : Nat) (X : Nat → Option Qs) (T' : Nat → Prop) (w' : World) (X' : Nat → Option Qs) : Prop where
  only : Only (FootP g X) w w'
  fresh : ∀ k, FootP g X' k → FootP g X k ∨ w.heap.size ≤ k
  ft : ∀ k, T' k → T k ∨ w.heap.size ≤ k
  tt : ∀ k, T k → T' k
/-- what footprints of queues hold is none of the bodies. -/
theorem IsCq.foot {T : Nat → Prop} {w : World} {x : Rq} {V : Nat → Value} {q : Qu} (h : IsCq T w x V q) {i : Nat} (hi : FootC x V i) : ¬ T i := by
  rcases hi with rfl | ⟨j, hj, e⟩
  · exact h.apt
  · exact (h.apart j hj i e).2
/-- a queue that another one's call leaves as it is, behind more bodies. -/
theorem IsCq.grow {T T' S : Nat → Prop} {w w' : World} {x : Rq} {V : Nat → Value} {q : Qu} (h : IsCq T w x V q) (ho : Only S w w') (hf : ∀ k, FootC x V k → ¬ S k) (ht : ∀ k, T k → ¬ S k)
    (tt : ∀ k, T k → T' k) (ft : ∀ k, T' k → T k ∨ w.heap.size ≤ k) (tl : ∀ k, T' k → k < w'.heap.size) : IsCq T' w' x V q :=
  have h1 := h.only ho hf ht
  have hn : ∀ k, FootC x V k → ¬ T' k := fun k hk e => by
    rcases ft k e with e | e
    · exact h.foot hk e
    · have := h.lts hk; omega
  { blk := h1.blk
    pk := fun b hb => (h1.pk b hb).mono tt
    it := h1.it
    fr := h1.fr
    el := h1.el
    own := h1.own
    apart := fun i hi k hk => ⟨(h1.apart i hi k hk).1, hn k (.inr ⟨i, hi, hk⟩)⟩
    there := tl
    apt := hn _ (.inl rfl) }
section
variable {T T' T2 S : Nat → Prop} {w w' w2 : World} {g : Nat} {h : Hd} {X X' X2 : Nat → Option Qs}
theorem IsPool.lt (hp : IsPool T w g h X) : g < w.heap.size := lt_blk hp.blk
theorem IsPool.lts (hp : IsPool T w g h X) {i : Nat} (hi : FootP g X i) : i < w.heap.size := by
  rcases hi with rfl | ⟨k, s, hk, hs, hf⟩
  · exact hp.lt
  · exact (hp.qs k hk s hs).is.lts hf
theorem IsPool.foot (hp : IsPool T w g h X) {i : Nat} (hi : FootP g X i) : ¬ T i := by
  rcases hi with rfl | ⟨k, s, hk, hs, hf⟩
  · exact hp.gt
  · exact (hp.qs k hk s hs).is.foot hf
theorem IsPool.only (hp : IsPool T w g h X) (ho : Only S w w') (hf : ∀ k, FootP g X k → ¬ S k) (ht : ∀ k, T k → ¬ S k) : IsPool T w' g h X where
  blk := ho.at_ hp.blk (hf _ (.inl rfl))
  qs := fun k hk s hs => have q := hp.qs k hk s hs
    ⟨q.is.only ho (fun i hi => hf i (.inr ⟨k, s, hk, hs, hi⟩)) ht, q.sd, q.tg, q.iv, q.inv, q.few⟩
  apart := hp.apart
  own := hp.own
  gt := hp.gt
  there := fun k hk => Nat.lt_of_lt_of_le (hp.there k hk) ho.size
theorem IsPool.quiet (hp : IsPool T w g h X) (hb : Below w.heap.size w w') : IsPool T w' g h X :=
  hp.only (S := fun _ => False) (Only.of_quiet hb) (fun _ _ e => e) (fun _ _ e => e)
theorem PlS.refl : PlS T w g X T w X := ⟨Only.refl _ _, fun k h => .inl h, fun k h => .inl h, fun k h => h⟩
theorem PlS.trans (a : PlS T w g X T' w' X') (b : PlS T' w' g X' T2 w2 X2) : PlS T w g X T2 w2 X2 where
  only := a.only.trans b.only fun i hi e => by
    rcases a.fresh i e with h1 | h1
    · exact h1
    · omega
  fresh := fun i e => by
    rcases b.fresh i e with h1 | h1
    · exact a.fresh i h1
    · exact .inr (Nat.le_trans a.only.size h1)
  ft := fun i e => by
    rcases b.ft i e with h1 | h1
    · exact a.ft i h1
    · exact .inr (Nat.le_trans a.only.size h1)
  tt := fun i e => b.tt i (a.tt i e)
theorem PlS.quiet (a : PlS T w g X T' w' X') (hb : Below w'.heap.size w' w2) : PlS T w g X T' w2 X' := ⟨a.only.then_quiet hb, a.fresh, a.ft, a.tt⟩
theorem PlS.over (a : PlS T w g X T' w' X') (ho : Only S w' w2) (hS : ∀ k, S k → w.heap.size ≤ k) : PlS T w g X T' w2 X' :=
  ⟨a.only.trans ho fun i hi e => by have := hS i e; omega, a.fresh, a.ft, a.tt⟩
theorem PlS.from_ (hb : Below w.heap.size w w') (a : PlS T w' g X T' w2 X') : PlS T w g X T' w2 X' :=
  ⟨(Only.of_quiet hb).trans a.only fun _ _ e => e, fun k e => (a.fresh k e).imp id (Nat.le_trans hb.size), fun k e => (a.ft k e).imp id (Nat.le_trans hb.size), a.tt⟩
/-- cells of it. -/
theorem IsPool.cell (hp : IsPool T w g h X) {k : Nat} (hk : k < 128) : w.cell? ⟨g, 5 + k, none⟩ = some (ptrQ (X k)) := by
  have e := (block_range hp.blk) (5 + k) _ (plC_get h X hk)
  simpa using e
theorem IsPool.row (hp : IsPool T w g h X) {i : Nat} (hi : i < 16) : w.rangeAt g (5 + i * 8) (rowQ X i) := fun t v hv => by
  have ht : t < 8 := by
    by_cases e : t < 8
    · exact e
    · rw [List.getElem?_eq_none (by show 8 ≤ t; omega)] at hv; cases hv
  rw [rowQ_get X i ht] at hv
  obtain rfl := Option.some.inj hv
  have e := hp.cell (k := 8 * i + t) (by omega)
  rw [show 5 + i * 8 + t = 5 + (8 * i + t) by omega]
  exact e
theorem IsPool.head (hp : IsPool T w g h X) : w.cell? ⟨g, 0, none⟩ = some (.int .u32 (uv h.seed)) ∧ w.cell? ⟨g, 1, none⟩ = some (.int .i64 h.tg) ∧ w.cell? ⟨g, 2, none⟩ = some (.int .i64 h.iv) ∧ w.cell? ⟨g, 3, none⟩ = some (.int .i64 h.mp) ∧ w.cell? ⟨g, 4, none⟩ = some (.int .i64 h.mb) := by
  have e := block_range hp.blk
  refine ⟨?_, ?_, ?_, ?_, ?_⟩
  · simpa using e 0 _ (by simp [plC, hdC])
  · simpa using e 1 _ (by simp [plC, hdC])
  · simpa using e 2 _ (by simp [plC, hdC])
  · simpa using e 3 _ (by simp [plC, hdC])
  · simpa using e 4 _ (by simp [plC, hdC])
/-- a call on one of its queues. -/
theorem IsPool.call (hp : IsPool T w g h X) {k : Nat} (hk : k < 128) {s : Qs} (hs : X k = some s) {V' : Nat → Value} {q' : Qu} (hQ : IsCq T' w' s.x V' q') (hC : CqS T w s.x s.V T' w' V') (hI : InvQ (bkQ h.seed) q') (hF : FewC q') :
    IsPool T' w' g h (updF X k (some ⟨s.x, V', q'⟩)) ∧ PlS T w g X T' w' (updF X k (some ⟨s.x, V', q'⟩)) := by
  have hgn : ¬ FootC s.x s.V g := hp.own k hk s hs
  have hsl := fun i (hi : FootC s.x s.V i) => (hp.qs k hk s hs).is.lts hi
  have hts : ∀ i, T i → ¬ FootC s.x s.V i := fun i hi e => (hp.qs k hk s hs).is.foot e hi
  constructor
  · refine ⟨?_, ?_, ?_, ?_, ?_, hQ.there⟩
    · rw [← plC_congr h (X := X) fun j hj => ?_]
      · exact hC.only.at_ hp.blk hgn
      · by_cases e : j = k
        · subst e; rw [hs, updF_same]; rfl
        · rw [updF_other _ _ e]
    · intro j hj t ht
      by_cases e : j = k
      · subst e
        rw [updF_same] at ht
        obtain rfl := Option.some.inj ht
        have q := hp.qs j hj s hs
        exact ⟨hQ, q.sd, q.tg, q.iv, hI, hF⟩
      · rw [updF_other _ _ e] at ht
        have q := hp.qs j hj t ht
        exact ⟨q.is.grow hC.only (fun i hi => hp.apart j hj k hk e t s ht hs i hi) hts hC.tt hC.ft hQ.there, q.sd, q.tg, q.iv, q.inv, q.few⟩
    · intro i hi j hj hij a b ha hb m hm hm2
      by_cases e : i = k
      · subst e
        rw [updF_same] at ha
        obtain rfl := Option.some.inj ha
        rw [updF_other _ _ (fun e => hij e.symm)] at hb
        rcases hC.fresh m hm with h1 | h1
        · exact hp.apart i hi j hj hij s b hs hb m h1 hm2
        · have := (hp.qs j hj b hb).is.lts hm2; omega
      · rw [updF_other _ _ e] at ha
        by_cases e2 : j = k
        · subst e2
          rw [updF_same] at hb
          obtain rfl := Option.some.inj hb
          rcases hC.fresh m hm2 with h1 | h1
          · exact hp.apart i hi j hj hij a s ha hs m hm h1
          · have := (hp.qs i hi a ha).is.lts hm; omega
        · rw [updF_other _ _ e2] at hb
          exact hp.apart i hi j hj hij a b ha hb m hm hm2
    · intro j hj t ht hg
      by_cases e : j = k
      · subst e
        rw [updF_same] at ht
        obtain rfl := Option.some.inj ht
        rcases hC.fresh g hg with h1 | h1
        · exact hgn h1
        · have := hp.lt; omega
      · rw [updF_other _ _ e] at ht
        exact hp.own j hj t ht hg
    · intro e
      rcases hC.ft g e with h1 | h1
      · exact hp.gt h1
      · have := hp.lt; omega
  · refine ⟨hC.only.mono fun i _ e => .inr ⟨k, s, hk, hs, e⟩, fun i hi => ?_, hC.ft, hC.tt⟩
    rcases hi with e | ⟨j, t, hj, ht, e⟩
    · exact .inl (.inl e)
    · by_cases e2 : j = k
      · subst e2
        rw [updF_same] at ht
        obtain rfl := Option.some.inj ht
        rcases hC.fresh i e with h1 | h1
        · exact .inl (.inr ⟨j, s, hj, hs, h1⟩)
        · exact .inr h1
      · rw [updF_other _ _ e2] at ht
        exact .inl (.inr ⟨j, t, hj, ht, e⟩)
/-- one queue's place turned: to a new queue, or to none. -/
theorem IsPool.turn (hp : IsPool T w g h X) {k : Nat} (hk : k < 128) {o : Option Qs} (ho : ∀ s, o = some s → QOk T (w.setRow g (plC h (updF X k o)).toArray) h s ∧ ¬ FootC s.x s.V g ∧ ∀ j, j < 128 → ∀ t, X j = some t → ∀ i, FootC s.x s.V i → ¬ FootC t.x t.V i) :
    IsPool T (w.setRow g (plC h (updF X k o)).toArray) g h (updF X k o) := by
  have hO : Only (· = g) w (w.setRow g (plC h (updF X k o)).toArray) := only_setRow _ _ _
  refine ⟨setRow_heap w g _ _ _ (0, 0) hp.blk, ?_, ?_, ?_, hp.gt, fun i hi => Nat.lt_of_lt_of_le (hp.there i hi) hO.size⟩
  · intro j hj t ht
    by_cases e : j = k
    · subst e
      rw [updF_same] at ht
      exact (ho t ht).1
    · rw [updF_other _ _ e] at ht
      have q := hp.qs j hj t ht
      exact ⟨q.is.only hO (fun i hi e => hp.own j hj t ht (e ▸ hi)) (fun i hi e => hp.gt (e ▸ hi)), q.sd, q.tg, q.iv, q.inv, q.few⟩
  · intro i hi j hj hij a b ha hb m hm hm2
    by_cases e : i = k
    · subst e
      rw [updF_same] at ha
      rw [updF_other _ _ (fun e => hij e.symm)] at hb
      exact (ho a ha).2.2 j hj b hb m hm hm2
    · rw [updF_other _ _ e] at ha
      by_cases e2 : j = k
      · subst e2
        rw [updF_same] at hb
        exact (ho b hb).2.2 i hi a ha m hm2 hm
      · rw [updF_other _ _ e2] at hb
        exact hp.apart i hi j hj hij a b ha hb m hm hm2
  · intro j hj t ht
    by_cases e : j = k
    · subst e
      rw [updF_same] at ht
      exact (ho t ht).2.1
    · rw [updF_other _ _ e] at ht
      exact hp.own j hj t ht
end
/-! ### the model -/
/-- what is in each queue. -/
def mOf (X : Nat → Option Qs) (k : Nat) : Qu := match X k with | some s => s.q | none => quZ
theorem mOf_some {X : Nat → Option Qs} {k : Nat} {s : Qs} (h : X k = some s) : mOf X k = s.q := by unfold mOf; rw [h]
theorem mOf_none {X : Nat → Option Qs} {k : Nat} (h : X k = none) : mOf X k = quZ := by unfold mOf; rw [h]
theorem mOf_upd (X : Nat → Option Qs) (k : Nat) (s : Qs) : mOf (updF X k (some s)) = updF (mOf X) k s.q := by
  funext j
  by_cases e : j = k
  · subst e; rw [updF_same, mOf_some (updF_same X j (some s))]
  · rw [updF_other _ _ e]; unfold mOf; rw [updF_other _ _ e]
theorem mOf_clr (X : Nat → Option Qs) (k : Nat) : mOf (updF X k none) = updF (mOf X) k quZ := by
  funext j
  by_cases e : j = k
  · subst e; rw [updF_same, mOf_none (updF_same X j none)]
  · rw [updF_other _ _ e]; unfold mOf; rw [updF_other _ _ e]
/-- all that is in the first n queues. -/
def allP (M : Nat → Qu) (n : Nat) : List Pk := (List.range n).flatMap fun k => allQ (M k)
theorem allP_succ (M : Nat → Qu) (n : Nat) : allP M (n + 1) = allP M n ++ allQ (M n) := by unfold allP; rw [List.range_succ, List.flatMap_append]; simp
theorem allTo_Z : ∀ n, allTo quZ n = []
  | 0 => rfl
  | n + 1 => by rw [allTo_succ, allTo_Z n]; rfl
theorem allQ_Z : allQ quZ = [] := allTo_Z 16
theorem lenTo_all (q : Qu) : ∀ n, lenTo q n = (allTo q n).length
  | 0 => rfl
  | n + 1 => by rw [lenTo_succ, allTo_succ, List.length_append, lenTo_all q n]
theorem bytesF_app (a b : List Pk) : bytesF (a ++ b) = bytesF a + bytesF b := by
  induction a with
  | nil => simp [bytesF]
  | cons p r ih => rw [List.cons_append, bytesF_cons, bytesF_cons, ih]; omega
theorem bytTo_all (q : Qu) : ∀ n, bytTo q n = bytesF (allTo q n)
  | 0 => rfl
  | n + 1 => by rw [bytTo_succ, allTo_succ, bytesF_app, bytTo_all q n]
theorem bytesF_perm {a b : List Pk} (h : a.Perm b) : bytesF a = bytesF b := by
  induction h with
  | nil => rfl
  | cons p _ ih => rw [bytesF_cons, bytesF_cons, ih]
  | swap p q l => rw [bytesF_cons, bytesF_cons, bytesF_cons, bytesF_cons]; omega
  | trans _ _ i1 i2 => exact i1.trans i2
end Go.Proofs.YtaibopaagjodoaaDoor

/-
  POOL: maths: the fattest flow of all; what is dropped till there is no more than may be. No program is named.
-/
namespace Go.Proofs.YtaibopaagjodoaaDoor
set_option linter.unusedVariables false
set_option linter.unusedSimpArgs false

/-! ### the first greatest of two parts -/
def combO (f : Nat → Int) (n : Nat) (a b : Option Nat) : Option Nat := match b with
  | none => a
  | some j => match a with
    | none => some (n + j)
    | some i => if f i < f (n + j) then some (n + j) else some i
theorem best_app {f : Nat → Int} {ok : Nat → Bool} {n m : Nat} {a b : Option Nat} (h1 : Best f ok n a) (h2 : Best (fun j => f (n + j)) (fun j => ok (n + j)) m b) : Best f ok (n + m) (combO f n a b) := by
  cases b with
  | none =>
    have h3 : ∀ j, j < m → ok (n + j) = false := h2
    have h4 : ∀ j, n ≤ j → j < n + m → ok j = false := fun j h5 h6 => by have := h3 (j - n) (by omega); rwa [show n + (j - n) = j by omega] at this
    cases a with
    | none =>
      intro j hj
      by_cases e : j < n
      · exact h1 j e
      · exact h4 j (by omega) hj
    | some i =>
      obtain ⟨a1, a2, a3, a4⟩ := h1
      refine ⟨by omega, a2, fun j hj ho => ?_, a4⟩
      by_cases e : j < n
      · exact a3 j e ho
      · rw [h4 j (by omega) hj] at ho; cases ho
  | some b =>
    obtain ⟨b1, b2, b3, b4⟩ := h2
    dsimp only at b2 b3 b4
    have h3 : ∀ j, n ≤ j → j < n + m → ok j = true → f j ≤ f (n + b) := fun j h5 h6 h7 => by
      have := b3 (j - n) (by omega); rw [show n + (j - n) = j by omega] at this; exact this h7
    have h4 : ∀ j, n ≤ j → j < n + b → ok j = true → f j < f (n + b) := fun j h5 h6 h7 => by
      have := b4 (j - n) (by omega); rw [show n + (j - n) = j by omega] at this; exact this h7
    cases a with
    | none =>
      refine ⟨by omega, b2, fun j hj ho => ?_, fun j hj ho => ?_⟩
      · by_cases e : j < n
        · have : ok j = false := h1 j e
          rw [this] at ho; cases ho
        · exact h3 j (by omega) hj ho
      · by_cases e : j < n
        · have : ok j = false := h1 j e
          rw [this] at ho; cases ho
        · exact h4 j (by omega) hj ho
    | some i =>
      obtain ⟨a1, a2, a3, a4⟩ := h1
      unfold combO
      dsimp only
      by_cases e : f i < f (n + b)
      · rw [if_pos e]
        refine ⟨by omega, b2, fun j hj ho => ?_, fun j hj ho => ?_⟩
        · by_cases e2 : j < n
          · have := a3 j e2 ho; omega
          · exact h3 j (by omega) hj ho
        · by_cases e2 : j < n
          · have := a3 j e2 ho; omega
          · exact h4 j (by omega) hj ho
      · rw [if_neg e]
        refine ⟨by omega, a2, fun j hj ho => ?_, a4⟩
        by_cases e2 : j < n
        · exact a3 j e2 ho
        · have := h3 j (by omega) hj ho; omega
theorem best_congr {f f' : Nat → Int} {ok ok' : Nat → Bool} {n : Nat} {o : Option Nat} (h : ∀ j, j < n → f j = f' j ∧ ok j = ok' j) (hb : Best f ok n o) : Best f' ok' n o := by
  cases o with
  | none => intro j hj; rw [← (h j hj).2]; exact hb j hj
  | some i =>
    obtain ⟨a1, a2, a3, a4⟩ := hb
    refine ⟨a1, by rw [← (h i a1).2]; exact a2, fun j hj ho => ?_, fun j hj ho => ?_⟩
    · rw [← (h j hj).1, ← (h i a1).1]; exact a3 j hj (by rw [(h j hj).2]; exact ho)
    · rw [← (h j (by omega)).1, ← (h i a1).1]; exact a4 j hj (by rw [(h j (by omega)).2]; exact ho)
/-! ### the fattest flow of all -/
def okG (M : Nat → Qu) (J : Nat) : Bool := okF (M (J / 16)) (J % 16)
def fatG (M : Nat → Qu) (J : Nat) : Int := fatF (M (J / 16)) (J % 16)
def IsFatG (M : Nat → Qu) (o : Option Nat) : Prop := Best (fatG M) (okG M) 2048 o
theorem fatG_in (M : Nat → Qu) (k : Nat) {j : Nat} (hj : j < 16) : fatG M (16 * k + j) = fatF (M k) j ∧ okG M (16 * k + j) = okF (M k) j := by
  unfold fatG okG
  rw [show (16 * k + j) / 16 = k by omega, show (16 * k + j) % 16 = j by omega]
  exact ⟨rfl, rfl⟩
theorem fat_next {M : Nat → Qu} {k : Nat} {a b : Option Nat} (h1 : Best (fatG M) (okG M) (16 * k) a) (h2 : IsFat (M k) b) : Best (fatG M) (okG M) (16 * (k + 1)) (combO (fatG M) (16 * k) a b) :=
  best_app h1 (best_congr (fun j hj => ⟨(fatG_in M k hj).1.symm, (fatG_in M k hj).2.symm⟩) h2)
theorem fat_quZ : IsFat quZ none := fun j _ => rfl
/-! ### all that is there -/
theorem mem_all {q : Qu} {i : Nat} {p : Pk} : ∀ n, i < n → p ∈ (q.fl i).pk → p ∈ allTo q n
  | 0, h, _ => by omega
  | n + 1, h, hp => by
    rw [allTo_succ, List.mem_append]
    by_cases e : i = n
    · subst e; exact .inr hp
    · exact .inl (mem_all n (by omega) hp)
theorem mem_allP {M : Nat → Qu} {i : Nat} {p : Pk} : ∀ n, i < n → p ∈ allQ (M i) → p ∈ allP M n
  | 0, h, _ => by omega
  | n + 1, h, hp => by
    rw [allP_succ, List.mem_append]
    by_cases e : i = n
    · subst e; exact .inr hp
    · exact .inl (mem_allP n (by omega) hp)
theorem allTo_mem {q : Qu} {p : Pk} : ∀ n, p ∈ allTo q n → ∃ i, i < n ∧ p ∈ (q.fl i).pk
  | 0, h => by cases h
  | n + 1, h => by
    rw [allTo_succ, List.mem_append] at h
    rcases h with h | h
    · obtain ⟨i, hi, hp⟩ := allTo_mem n h; exact ⟨i, by omega, hp⟩
    · exact ⟨n, by omega, h⟩
theorem allP_mem {M : Nat → Qu} {p : Pk} : ∀ n, p ∈ allP M n → ∃ k, k < n ∧ p ∈ allQ (M k)
  | 0, h => by cases h
  | n + 1, h => by
    rw [allP_succ, List.mem_append] at h
    rcases h with h | h
    · obtain ⟨i, hi, hp⟩ := allP_mem n h; exact ⟨i, by omega, hp⟩
    · exact ⟨n, by omega, h⟩
theorem allTo_congr {q r : Qu} : ∀ n, (∀ b, b < n → (q.fl b).pk = (r.fl b).pk) → allTo q n = allTo r n
  | 0, _ => rfl
  | n + 1, h => by rw [allTo_succ, allTo_succ, allTo_congr n fun b hb => h b (by omega), h n (by omega)]
theorem allP_congr {M N : Nat → Qu} : ∀ n, (∀ k, k < n → allQ (M k) = allQ (N k)) → allP M n = allP N n
  | 0, _ => rfl
  | n + 1, h => by rw [allP_succ, allP_succ, allP_congr n fun b hb => h b (by omega), h n (by omega)]
/-- one of a flow's turned. -/
theorem allTo_set {q : Qu} {b : Nat} {y : Fl} {fr el : List Nat} {p : Pk} (h : (q.fl b).pk.Perm (p :: y.pk)) : ∀ n, b < n → (allTo q n).Perm (p :: allTo ⟨setF q.fl b y, fr, el⟩ n)
  | 0, hb => by omega
  | n + 1, hb => by
    rw [allTo_succ, allTo_succ]
    by_cases e : b = n
    · subst e
      dsimp only
      rw [setF_same, allTo_congr (r := ⟨setF q.fl b y, fr, el⟩) b fun k hk => by dsimp only; rw [setF_other _ _ (by omega)]]
      exact (List.Perm.append_left _ h).trans List.perm_middle
    · dsimp only
      rw [setF_other _ _ (fun e2 => e e2.symm)]
      exact List.Perm.append_right _ (allTo_set h n (by omega))
theorem allP_set {M : Nat → Qu} {k : Nat} {q : Qu} {p : Pk} (h : (allQ (M k)).Perm (p :: allQ q)) : ∀ n, k < n → (allP M n).Perm (p :: allP (updF M k q) n)
  | 0, hb => by omega
  | n + 1, hb => by
    rw [allP_succ, allP_succ]
    by_cases e : k = n
    · subst e
      rw [updF_same, allP_congr (N := updF M k q) k fun j hj => by rw [updF_other _ _ (by omega)]]
      exact (List.Perm.append_left _ h).trans List.perm_middle
    · rw [updF_other _ _ (fun e2 => e e2.symm)]
      exact List.Perm.append_right _ (allP_set h n (by omega))
theorem updF_back {α : Type} (M : Nat → α) (k : Nat) (q : α) : updF (updF M k q) k (M k) = M := by
  funext j
  by_cases e : j = k
  · subst e; rw [updF_same]
  · rw [updF_other _ _ e, updF_other _ _ e]
/-! ### a drop -/
theorem all_drop {q : Qu} {b : Nat} {p : Pk} {r : List Pk} (hb : b < 16) (h : (q.fl b).pk = p :: r) : (allQ q).Perm (p :: allQ (dropQ q b)) :=
  allTo_set (y := ⟨(q.fl b).pk.tail, (q.fl b).df, (q.fl b).cd⟩) (by rw [h]; exact List.Perm.refl _) 16 hb
def dropM (M : Nat → Qu) (J : Nat) : Nat → Qu := updF M (J / 16) (dropQ (M (J / 16)) (J % 16))
theorem allP_drop {M : Nat → Qu} {J : Nat} {p : Pk} {r : List Pk} (hJ : J < 2048) (h : ((M (J / 16)).fl (J % 16)).pk = p :: r) : (allP M 128).Perm (p :: allP (dropM M J) 128) :=
  allP_set (all_drop (by omega) h) 128 (by omega)
/-- till there is no more than may be. -/
inductive Shr (mp mb : Int) : (Nat → Qu) → List Pk → (Nat → Qu) → Prop
  | done {M : Nat → Qu} : ((allP M 128).length : Int) ≤ mp → bytesF (allP M 128) ≤ mb → Shr mp mb M [] M
  | step {M : Nat → Qu} {J : Nat} {p : Pk} {r ds : List Pk} {M' : Nat → Qu} : (mp < ((allP M 128).length : Int) ∨ mb < bytesF (allP M 128)) → IsFatG M (some J) → ((M (J / 16)).fl (J % 16)).pk = p :: r → Shr mp mb (dropM M J) ds M' → Shr mp mb M (p :: ds) M'
theorem shr_perm {mp mb : Int} {M M' : Nat → Qu} {ds : List Pk} (h : Shr mp mb M ds M') : (allP M 128).Perm (ds ++ allP M' 128) ∧ ((allP M' 128).length : Int) ≤ mp ∧ bytesF (allP M' 128) ≤ mb := by
  induction h with
  | done h1 h2 => exact ⟨List.Perm.refl _, h1, h2⟩
  | @step M J p r ds M' h1 h2 h3 _ ih =>
    exact ⟨(allP_drop h2.1 h3).trans (List.Perm.cons p ih.1), ih.2⟩
theorem shr_none {mp mb : Int} {M M' : Nat → Qu} {ds : List Pk} (h : Shr mp mb M ds M') (h1 : ((allP M 128).length : Int) ≤ mp) (h2 : bytesF (allP M 128) ≤ mb) : ds = [] ∧ M' = M := by
  cases h with
  | done _ _ => exact ⟨rfl, rfl⟩
  | step h3 _ _ _ => omega
/-- where there is something, there is a fattest one. -/
theorem fatG_some {M : Nat → Qu} {p : Pk} (h : p ∈ allP M 128) (hf : IsFatG M none) : False := by
  obtain ⟨k, hk, h1⟩ := allP_mem 128 h
  obtain ⟨b, hb, h2⟩ := allTo_mem 16 h1
  have h3 : okG M (16 * k + b) = false := hf (16 * k + b) (by omega)
  rw [(fatG_in M k hb).2] at h3
  unfold okF at h3
  cases hp : ((M k).fl b).pk with
  | nil => rw [hp] at h2; cases h2
  | cons p r => rw [hp] at h3; simp at h3
/-! ### what a drop keeps -/
theorem few_drop {q : Qu} (h : FewC q) {b : Nat} (hb : b < 16) : FewC (dropQ q b) :=
  few_set h (by rw [List.length_tail]; have := h.len b hb; omega) (fun p hp => h.el b hb p (List.mem_of_mem_tail hp)) (h.cd b hb) (h.df b hb)
theorem inv_drop {bk : Int → Nat} {q : Qu} (h : InvQ bk q) (b : Nat) : InvQ bk (dropQ q b) := by
  refine ⟨h.nodup, h.lt, fun k hk => h.listed k fun e => ?_, fun k p hp => h.own k p ?_⟩
  · apply hk
    by_cases e2 : k = b
    · subst e2; simp [dropQ, setF_same, e]
    · simp only [dropQ, setF_other _ _ e2]; exact e
  · by_cases e2 : k = b
    · subst e2; simp only [dropQ, setF_same] at hp; exact List.mem_of_mem_tail hp
    · simp only [dropQ, setF_other _ _ e2] at hp; exact hp
end Go.Proofs.YtaibopaagjodoaaDoor

/-
  CONTRACTS of pool's known, queue, Has; of the functions that each is given.
-/
namespace Go.Proofs.YtaibopaagjodoaaDoor
open Go.ChangeShapes Go.WideShapes Go.ChangeAt Go.RowKit Go.Deep
set_option linter.unusedVariables false
set_option linter.unusedSimpArgs false

/-- is there such a queue? -/
def knownP (aid tid : Int) : Prop := (1 ≤ aid ∧ aid ≤ 16) ∧ (0 ≤ tid ∧ tid < 8)
theorem knownP_in {aid tid : Int} (h : knownP aid tid) : ∃ a t : Nat, a < 16 ∧ t < 8 ∧ aid = (a : Int) + 1 ∧ tid = (t : Int) := by
  obtain ⟨⟨h1, h2⟩, h3, h4⟩ := h
  exact ⟨(aid - 1).toNat, tid.toNat, by omega, by omega, by omega, by omega⟩
set_option maxRecDepth 100000 in
set_option maxHeartbeats 8000000 in
theorem known_any (aid tid : Int) (w : World) (b : Bool) (hb : b = true ↔ knownP aid tid) :
    Calls Tryd.prog 17 #[.int .i64 aid, .int .i64 tid] w fun e w' => e = .returned (.bool b) ∧ w = w' := by
  unfold knownP at hb
  rcases Int.lt_or_le aid 1 with h1 | h1
  · have HB := Shut.mk (show b = false by cases b with | false => rfl | true => have := hb.1 rfl; omega)
    clear hb
    go_enter Tryd.func17, Tryd.ntmps17
    go_wp2
    go_ret
    exact ⟨by rw [HB.out]; rfl, rfl⟩
  rcases Int.lt_or_le 16 aid with h2 | h2
  · have HB := Shut.mk (show b = false by cases b with | false => rfl | true => have := hb.1 rfl; omega)
    clear hb
    go_enter Tryd.func17, Tryd.ntmps17
    go_wp2
    go_ret
    exact ⟨by rw [HB.out]; rfl, rfl⟩
  rcases Int.lt_or_le tid 0 with h3 | h3
  · have HB := Shut.mk (show b = false by cases b with | false => rfl | true => have := hb.1 rfl; omega)
    clear hb
    go_enter Tryd.func17, Tryd.ntmps17
    go_wp2
    go_ret
    exact ⟨by rw [HB.out]; rfl, rfl⟩
  rcases Int.lt_or_le tid 8 with h4 | h4
  · have HB := Shut.mk (show b = true from hb.2 ⟨⟨h1, h2⟩, h3, h4⟩)
    clear hb
    go_enter Tryd.func17, Tryd.ntmps17
    go_wp2
    go_ret
    exact ⟨by rw [HB.out]; rfl, rfl⟩
  · have HB := Shut.mk (show b = false by cases b with | false => rfl | true => have := hb.1 rfl; omega)
    clear hb
    go_enter Tryd.func17, Tryd.ntmps17
    go_wp2
    go_ret
    exact ⟨by rw [HB.out]; show Ending.returned (Value.bool (decide (tid < 8))) = _; rw [decide_eq_false (by omega)], rfl⟩
theorem known_yes {aid tid : Int} (h : knownP aid tid) (w : World) : Calls Tryd.prog 17 #[.int .i64 aid, .int .i64 tid] w fun e w' => e = .returned (.bool true) ∧ w = w' := known_any aid tid w true ⟨fun _ => h, fun _ => rfl⟩
theorem known_no {aid tid : Int} (h : ¬ knownP aid tid) (w : World) : Calls Tryd.prog 17 #[.int .i64 aid, .int .i64 tid] w fun e w' => e = .returned (.bool false) ∧ w = w' := known_any aid tid w false ⟨(fun e => by cases e), fun e => absurd e h⟩
section
variable {T : Nat → Prop} {w : World} {g : Nat} {h : Hd} {X : Nat → Option Qs}
set_option maxRecDepth 100000 in
set_option maxHeartbeats 8000000 in
theorem queue_no (aid tid : Int) (w : World) (g : Nat) (hk : ¬ knownP aid tid) :
    Calls Tryd.prog 18 #[.pointer (some ⟨g, 0, none⟩), .int .i64 aid, .int .i64 tid] w fun e w' => e = .returned (.pointer none) ∧ w = w' := by
  have HK := Shut.mk hk
  clear hk
  go_enter Tryd.func18, Tryd.ntmps18
  go_wp2_with (fail)
  refine (known_no HK.out w).mono ?_
  rintro e wn ⟨rfl, rfl⟩
  go_wp2
  go_ret
  exact ⟨rfl, rfl⟩
set_option maxRecDepth 100000 in
set_option maxHeartbeats 8000000 in
theorem queue_in (hp : IsPool T w g h X) (a t : Nat) (ha : a < 16) (ht : t < 8) :
    Calls Tryd.prog 18 #[.pointer (some ⟨g, 0, none⟩), .int .i64 ((a : Int) + 1), .int .i64 (t : Int)] w fun e w' => e = .returned (ptrQ (X (8 * a + t))) ∧ w = w' := by
  have HK := Shut.mk (show knownP ((a : Int) + 1) (t : Int) from ⟨⟨by omega, by omega⟩, by omega, by omega⟩)
  have hcell := hp.cell (k := 8 * a + t) (by omega)
  rw [show 5 + (8 * a + t) = 5 + a * 8 + t by omega] at hcell
  clear hp
  obtain ⟨v, hv⟩ : ∃ v, v = ptrQ (X (8 * a + t)) := ⟨_, rfl⟩
  rw [← hv] at hcell ⊢
  have HV := Shut.mk hv
  clear hv
  have hai : (a : Int) < 16 := by omega
  have hti : (t : Int) < 8 := by omega
  have hwr : IntKind.i64.wrap ((a : Int) + 1 - 1) = (a : Int) := by rw [IntWalk.i64_in _ ⟨by omega, by omega⟩]; omega
  go_enter Tryd.func18, Tryd.ntmps18
  go_wp2_with (fail)
  refine (known_yes HK.out w).mono ?_
  rintro e wn ⟨rfl, rfl⟩
  go_wp2
  go_ret
  exact ⟨rfl, rfl⟩

set_option maxRecDepth 100000 in
set_option maxHeartbeats 8000000 in
theorem has_p_any (hp : IsPool T w g h X) (aid tid : Int) (b : Bool) (hb : b = true ↔ knownP aid tid ∧ allQ (mOf X (8 * (aid - 1).toNat + tid.toNat)) ≠ []) :
    Calls Tryd.prog 14 #[.pointer (some ⟨g, 0, none⟩), .int .i64 aid, .int .i64 tid] w fun e w' => e = .returned (.bool b) ∧ w = w' := by
  have HP := Shut.mk hp
  have HB := Shut.mk hb
  clear hp hb
  by_cases hk : knownP aid tid
  · obtain ⟨a, t, ha, ht, rfl, rfl⟩ := knownP_in hk
    have hb := HB.out
    rw [show 8 * ((a : Int) + 1 - 1).toNat + (t : Int).toNat = 8 * a + t by omega] at hb
    have HB2 := Shut.mk hb
    clear hb HB
    cases hx : X (8 * a + t) with
    | none =>
      have HB3 := Shut.mk (show b = false by
        cases b with
        | false => rfl
        | true => have := (HB2.out.1 rfl).2; rw [mOf_none hx, allQ_Z] at this; exact absurd rfl this)
      have HX := Shut.mk hx
      clear hx hk
      go_enter Tryd.func14, Tryd.ntmps14
      go_wp2_with (fail)
      refine (queue_in HP.out a t ha ht).mono ?_
      rintro e wn ⟨rfl, rfl⟩
      rw [HX.out]
      unfold ptrQ
      dsimp only
      go_wp2
      go_ret
      exact ⟨by rw [HB3.out]; rfl, rfl⟩
    | some s =>
      have hq := HP.out.qs (8 * a + t) (by omega) s hx
      have HQ := Shut.mk hq.is
      have HF := Shut.mk (show ∀ b, b < 16 → (s.q.fl b).pk.length ≤ 10000 from fun b hb => by have := hq.few.len b hb; omega)
      have hb := HB2.out
      rw [mOf_some hx] at hb
      have HL := Shut.mk (show lenTo s.q 16 = (allQ s.q).length from lenTo_all s.q 16)
      have hll := lenTo_le HF.out 16 (Nat.le_refl _)
      have HX := Shut.mk hx
      clear hx hk hq
      obtain ⟨n, hn⟩ : ∃ n, n = lenTo s.q 16 := ⟨_, rfl⟩
      rw [← hn] at hll
      have HN := Shut.mk hn
      have HB3 := Shut.mk (show b = decide (0 < n) by
        have h1 := HL.out
        rw [← hn] at h1
        cases b with
        | false =>
          symm
          rw [decide_eq_false_iff_not]
          intro h0
          have : (false : Bool) = true := hb.2 ⟨⟨⟨by omega, by omega⟩, by omega, by omega⟩, fun e => by rw [e] at h1; simp at h1; omega⟩
          cases this
        | true =>
          symm
          rw [decide_eq_true_iff]
          have h2 := (hb.1 rfl).2
          rcases Nat.eq_zero_or_pos n with h0 | h0
          · rw [h0] at h1; exact absurd (List.eq_nil_of_length_eq_zero h1.symm) h2
          · exact h0)
      clear hb hn
      go_enter Tryd.func14, Tryd.ntmps14
      go_wp2_with (fail)
      refine (queue_in HP.out a t ha ht).mono ?_
      rintro e wn ⟨rfl, rfl⟩
      rw [HX.out]
      unfold ptrQ
      dsimp only
      go_wp2_with (fail)
      refine (len_any T w s.x s.V s.q HQ.out HF.out).mono ?_
      rintro e wn ⟨rfl, rfl⟩
      rw [← HN.out]
      go_wp2
      go_ret
      exact ⟨by rw [HB3.out]; simp, rfl⟩
  · have HB3 := Shut.mk (show b = false by
      cases b with
      | false => rfl
      | true => exact absurd (HB.out.1 rfl).1 hk)
    have HK := Shut.mk hk
    clear hk
    go_enter Tryd.func14, Tryd.ntmps14
    go_wp2_with (fail)
    refine (queue_no aid tid w g HK.out).mono ?_
    rintro e wn ⟨rfl, rfl⟩
    go_wp2
    go_ret
    exact ⟨by rw [HB3.out]; rfl, rfl⟩
end

set_option maxRecDepth 100000 in
set_option maxHeartbeats 8000000 in
theorem lenfn_any (T : Nat → Prop) (w : World) (x : Rq) (V : Nat → Value) (q : Qu) (h : IsCq T w x V q) (hf : FewC q) (c : Nat) (u : Int) (hc : w.heap[c]? = some (.cells #[.int .i64 u] 3 (0, 0))) (hu : 0 ≤ u ∧ u ≤ 1125899906842624) :
    Calls Tryd.prog 23 #[.pointer (some ⟨x.g, 0, none⟩), .pointer (some ⟨c, 0, none⟩)] w fun e w' => e = .returned (.tuple #[]) ∧ w'.heap[c]? = some (.cells #[.int .i64 (u + ((lenTo q 16 : Nat) : Int))] 3 (0, 0)) ∧ Only (· = c) w w' := by
  have HLN := Shut.mk (show ∀ b, b < 16 → (q.fl b).pk.length ≤ 10000 from fun b hb => by have := hf.len b hb; omega)
  have HBD := Shut.mk (show ∀ b, b < 16 → ∀ p ∈ (q.fl b).pk, p.body.length ≤ 1000000 from fun b hb p hp => (hf.el b hb p hp).2.2)
  have HWR := Shut.mk (show IntKind.i64.wrap (u + ((lenTo q 16 : Nat) : Int)) = u + ((lenTo q 16 : Nat) : Int) from IntWalk.i64_in _ (by have := lenTo_le HLN.out 16 (Nat.le_refl _); omega))
  have HQ := Shut.mk h
  have HC := Shut.mk (show w.heap[c]? = some (.cells ([] ++ [Value.int .i64 u] ++ []).toArray 3 (0, 0)) from hc)
  clear h hf hc hu
  obtain ⟨w5, hw5⟩ : ∃ wq, wq = World.drew w := ⟨_, rfl⟩
  have HWw5 := Shut.mk hw5
  have HDw5 := Shut.mk (show Below w.heap.size w w5 by rw [hw5]; exact (Below.refl _ _).drew)
  clear hw5
  have HQ5 := Shut.mk (HQ.out.quiet HDw5.out)
  have HC5 := Shut.mk ((HDw5.out.block _ (lt_blk HC.out)).trans HC.out)
  go_enter Tryd.func23, Tryd.ntmps23
  go_wp2_with (fail)
  refine wp_region_D (fun w' => w5 = w') 4 (by kernel_rfl) HWw5.out (fun hHeld hC => ?_)
  rw [← HWw5.out] at hHeld ⊢
  refine wpAnyD_take (i := 0) (v := ?_) 40 rfl (by kernel_rfl) hC (by kernel_rfl) (by kernel_rfl) (by kernel_rfl) (by decide) (fun _ _ _ h => h) (Or.inl ⟨by rfl, ?_⟩) (fun _ => hHeld) ?_
  rotate_left
  · intro w hSw
    have hz := (show w.cell? ⟨c, 0, none⟩ = some (.int .i64 u) from by rw [← hSw]; have := block_range HC5.out 0 _ rfl; simpa using this)
    clear hSw
    go_simp
    try with_reducible rfl
  try simp only [Act.put, List.getElem_toArray, List.getElem_cons_zero, List.getElem_cons_succ, List.setIfInBounds_toArray, List.set_cons_zero, List.set_cons_succ]
  clear hC
  intro hC
  refine wpAnyD_pure (i := 1) (v := ?_) rfl hC (by kernel_rfl) (by kernel_rfl) (by kernel_rfl) (by decide) (fun _ _ _ h => h) (Or.inl ⟨by rfl, ?_⟩) (fun _ => hHeld) ?_
  rotate_left
  · intro w hSw
    clear hSw
    go_simp
    try with_reducible rfl
  try simp only [Act.put, List.getElem_toArray, List.getElem_cons_zero, List.getElem_cons_succ, List.setIfInBounds_toArray, List.set_cons_zero, List.set_cons_succ]
  clear hC
  intro hC
  refine wpAnyD_one (i := 2) (by kernel_rfl) rfl hC (fun K hK => ?_)
  clear hC
  go_simp
  refine (len_any T w5 x V q (by rw [← hHeld]; exact HQ5.out) HLN.out).mono ?_
  rintro e' wv1 ⟨rfl, hw⟩
  have hHeld2 := hHeld.trans hw
  clear hw
  clear hHeld
  have hHeld := hHeld2
  clear hHeld2
  refine hK.out _ _ (fun _ => hHeld) (fun hC => ?_)
  clear hK K
  try simp only [Act.put, List.getElem_toArray, List.getElem_cons_zero, List.getElem_cons_succ, List.setIfInBounds_toArray, List.set_cons_zero, List.set_cons_succ]
  refine wpAnyD_pure (i := 3) (v := ?_) rfl hC (by kernel_rfl) (by kernel_rfl) (by kernel_rfl) (by decide) (fun _ _ _ h => h) (Or.inl ⟨by rfl, ?_⟩) (fun _ => hHeld) ?_
  rotate_left
  · intro w hSw
    have hwr := HWR.out
    clear hSw
    go_simp
    try with_reducible rfl
  try simp only [Act.put, List.getElem_toArray, List.getElem_cons_zero, List.getElem_cons_succ, List.setIfInBounds_toArray, List.set_cons_zero, List.set_cons_succ]
  clear hC
  intro hC
  refine wpAnyD_one (i := 4) (by kernel_rfl) rfl hC (fun K hK => ?_)
  clear hC
  rw [← hHeld]
  refine step_store_fld rfl 3 (.tmp 1) (.tmp 6) rfl c 0 0 (.int .i64 (u + ((lenTo q 16 : Nat) : Int))) rfl rfl rfl 3 [] [.int .i64 u] [.int .i64 (u + ((lenTo q 16 : Nat) : Int))] [] HC5.out rfl size1i (by show 0 < 1; omega) rfl ?_
  have HCE := Shut.mk (setRow_heap w5 c _ ([] ++ [Value.int .i64 (u + ((lenTo q 16 : Nat) : Int))] ++ []).toArray _ (0, 0) HC5.out)
  have HOE := Shut.mk (only_setRow w5 c ([] ++ [Value.int .i64 (u + ((lenTo q 16 : Nat) : Int))] ++ []).toArray)
  generalize hq : World.setRow w5 c _ = wv2 at *
  clear hq
  refine hK.out _ _ (past (by kernel_rfl)) (fun hC => ?_)
  clear hK K
  try simp only [Act.put, List.getElem_toArray, List.getElem_cons_zero, List.getElem_cons_succ, List.setIfInBounds_toArray, List.set_cons_zero, List.set_cons_succ]
  refine wpAnyD_done (by kernel_rfl) ?_ _
  try simp only [Act.put, List.getElem_toArray, List.getElem_cons_zero, List.getElem_cons_succ, List.setIfInBounds_toArray, List.set_cons_zero, List.set_cons_succ]
  clear hHeld hC
  go_wp2
  go_end0
  exact ⟨rfl, HCE.out, (Only.of_quiet HDw5.out).trans HOE.out fun _ _ e => e⟩

set_option maxRecDepth 100000 in
set_option maxHeartbeats 8000000 in
theorem bytfn_any (T : Nat → Prop) (w : World) (x : Rq) (V : Nat → Value) (q : Qu) (h : IsCq T w x V q) (hf : FewC q) (c : Nat) (u : Int) (hc : w.heap[c]? = some (.cells #[.int .i64 u] 3 (0, 0))) (hu : 0 ≤ u ∧ u ≤ 1125899906842624) :
    Calls Tryd.prog 25 #[.pointer (some ⟨x.g, 0, none⟩), .pointer (some ⟨c, 0, none⟩)] w fun e w' => e = .returned (.tuple #[]) ∧ w'.heap[c]? = some (.cells #[.int .i64 (u + bytTo q 16)] 3 (0, 0)) ∧ Only (· = c) w w' := by
  have HLN := Shut.mk (show ∀ b, b < 16 → (q.fl b).pk.length ≤ 10000 from fun b hb => by have := hf.len b hb; omega)
  have HBD := Shut.mk (show ∀ b, b < 16 → ∀ p ∈ (q.fl b).pk, p.body.length ≤ 1000000 from fun b hb p hp => (hf.el b hb p hp).2.2)
  have HWR := Shut.mk (show IntKind.i64.wrap (u + bytTo q 16) = u + bytTo q 16 from IntWalk.i64_in _ (by have := bytTo_in HLN.out HBD.out 16 (Nat.le_refl _); omega))
  have HQ := Shut.mk h
  have HC := Shut.mk (show w.heap[c]? = some (.cells ([] ++ [Value.int .i64 u] ++ []).toArray 3 (0, 0)) from hc)
  clear h hf hc hu
  obtain ⟨w5, hw5⟩ : ∃ wq, wq = World.drew w := ⟨_, rfl⟩
  have HWw5 := Shut.mk hw5
  have HDw5 := Shut.mk (show Below w.heap.size w w5 by rw [hw5]; exact (Below.refl _ _).drew)
  clear hw5
  have HQ5 := Shut.mk (HQ.out.quiet HDw5.out)
  have HC5 := Shut.mk ((HDw5.out.block _ (lt_blk HC.out)).trans HC.out)
  go_enter Tryd.func25, Tryd.ntmps25
  go_wp2_with (fail)
  refine wp_region_D (fun w' => w5 = w') 4 (by kernel_rfl) HWw5.out (fun hHeld hC => ?_)
  rw [← HWw5.out] at hHeld ⊢
  refine wpAnyD_take (i := 0) (v := ?_) 40 rfl (by kernel_rfl) hC (by kernel_rfl) (by kernel_rfl) (by kernel_rfl) (by decide) (fun _ _ _ h => h) (Or.inl ⟨by rfl, ?_⟩) (fun _ => hHeld) ?_
  rotate_left
  · intro w hSw
    have hz := (show w.cell? ⟨c, 0, none⟩ = some (.int .i64 u) from by rw [← hSw]; have := block_range HC5.out 0 _ rfl; simpa using this)
    clear hSw
    go_simp
    try with_reducible rfl
  try simp only [Act.put, List.getElem_toArray, List.getElem_cons_zero, List.getElem_cons_succ, List.setIfInBounds_toArray, List.set_cons_zero, List.set_cons_succ]
  clear hC
  intro hC
  refine wpAnyD_pure (i := 1) (v := ?_) rfl hC (by kernel_rfl) (by kernel_rfl) (by kernel_rfl) (by decide) (fun _ _ _ h => h) (Or.inl ⟨by rfl, ?_⟩) (fun _ => hHeld) ?_
  rotate_left
  · intro w hSw
    clear hSw
    go_simp
    try with_reducible rfl
  try simp only [Act.put, List.getElem_toArray, List.getElem_cons_zero, List.getElem_cons_succ, List.setIfInBounds_toArray, List.set_cons_zero, List.set_cons_succ]
  clear hC
  intro hC
  refine wpAnyD_one (i := 2) (by kernel_rfl) rfl hC (fun K hK => ?_)
  clear hC
  go_simp
  refine (bytes_q_any T w5 x V q (by rw [← hHeld]; exact HQ5.out) HLN.out HBD.out).mono ?_
  rintro e' wv1 ⟨rfl, hw⟩
  have hHeld2 := hHeld.trans hw
  clear hw
  clear hHeld
  have hHeld := hHeld2
  clear hHeld2
  refine hK.out _ _ (fun _ => hHeld) (fun hC => ?_)
  clear hK K
  try simp only [Act.put, List.getElem_toArray, List.getElem_cons_zero, List.getElem_cons_succ, List.setIfInBounds_toArray, List.set_cons_zero, List.set_cons_succ]
  refine wpAnyD_pure (i := 3) (v := ?_) rfl hC (by kernel_rfl) (by kernel_rfl) (by kernel_rfl) (by decide) (fun _ _ _ h => h) (Or.inl ⟨by rfl, ?_⟩) (fun _ => hHeld) ?_
  rotate_left
  · intro w hSw
    have hwr := HWR.out
    clear hSw
    go_simp
    try with_reducible rfl
  try simp only [Act.put, List.getElem_toArray, List.getElem_cons_zero, List.getElem_cons_succ, List.setIfInBounds_toArray, List.set_cons_zero, List.set_cons_succ]
  clear hC
  intro hC
  refine wpAnyD_one (i := 4) (by kernel_rfl) rfl hC (fun K hK => ?_)
  clear hC
  rw [← hHeld]
  refine step_store_fld rfl 3 (.tmp 1) (.tmp 6) rfl c 0 0 (.int .i64 (u + bytTo q 16)) rfl rfl rfl 3 [] [.int .i64 u] [.int .i64 (u + bytTo q 16)] [] HC5.out rfl size1i (by show 0 < 1; omega) rfl ?_
  have HCE := Shut.mk (setRow_heap w5 c _ ([] ++ [Value.int .i64 (u + bytTo q 16)] ++ []).toArray _ (0, 0) HC5.out)
  have HOE := Shut.mk (only_setRow w5 c ([] ++ [Value.int .i64 (u + bytTo q 16)] ++ []).toArray)
  generalize hq : World.setRow w5 c _ = wv2 at *
  clear hq
  refine hK.out _ _ (past (by kernel_rfl)) (fun hC => ?_)
  clear hK K
  try simp only [Act.put, List.getElem_toArray, List.getElem_cons_zero, List.getElem_cons_succ, List.setIfInBounds_toArray, List.set_cons_zero, List.set_cons_succ]
  refine wpAnyD_done (by kernel_rfl) ?_ _
  try simp only [Act.put, List.getElem_toArray, List.getElem_cons_zero, List.getElem_cons_succ, List.setIfInBounds_toArray, List.set_cons_zero, List.set_cons_succ]
  clear hHeld hC
  go_wp2
  go_end0
  exact ⟨rfl, HCE.out, (Only.of_quiet HDw5.out).trans HOE.out fun _ _ e => e⟩

/-- what the fattest so far is, behind a queue at g whose own is o. -/
def fatStep (q : Qu) (g : Nat) (o : Option Nat) (m : Int) (p : Value) (b : Int) : Int × Value × Int :=
  match o with
  | none => (m, p, b)
  | some i => if m < fatF q i then (fatF q i, .pointer (some ⟨g, 0, none⟩), (i : Nat)) else (m, p, b)
/-- the three variables. -/
structure FatC (w : World) (cm cf cb : Nat) (s : Int × Value × Int) : Prop where
  m : w.heap[cm]? = some (.cells #[.int .i64 s.1] 3 (0, 0))
  f : w.heap[cf]? = some (.cells #[s.2.1] 52 (0, 0))
  b : w.heap[cb]? = some (.cells #[.int .i64 s.2.2] 3 (0, 0))
theorem FatC.quiet {w w' : World} {cm cf cb : Nat} {s : Int × Value × Int} (h : FatC w cm cf cb s) (hb : Below w.heap.size w w') : FatC w' cm cf cb s :=
  ⟨(hb.block _ (lt_blk h.m)).trans h.m, (hb.block _ (lt_blk h.f)).trans h.f, (hb.block _ (lt_blk h.b)).trans h.b⟩
theorem fat_len0 {q : Qu} (h : IsFat q none) : lenTo q 16 = 0 := by
  have : ∀ n, n ≤ 16 → lenTo q n = 0 := by
    intro n
    induction n with
    | zero => intro _; rfl
    | succ n ih =>
      intro hn
      rw [lenTo_succ, ih (by omega)]
      have h1 : okF q n = false := h n (by omega)
      unfold okF at h1
      cases hp : (q.fl n).pk with
      | nil => rfl
      | cons p r => rw [hp] at h1; simp at h1
  exact this 16 (Nat.le_refl _)
theorem lenTo_ge (q : Qu) (i : Nat) : ∀ n, i < n → (q.fl i).pk.length ≤ lenTo q n
  | 0, h => by omega
  | n + 1, h => by
    rw [lenTo_succ]
    by_cases e : i = n
    · subst e; omega
    · have := lenTo_ge q i n (by omega); omega
theorem fat_len1 {q : Qu} {i : Nat} (h : IsFat q (some i)) : 0 < lenTo q 16 := by
  have h1 := lenTo_ge q i 16 h.1
  have h2 : okF q i = true := h.2.1
  unfold okF at h2
  cases hp : (q.fl i).pk with
  | nil => rw [hp] at h2; simp at h2
  | cons p r => rw [hp] at h1; simp at h1; omega
theorem size1Q : (Tryd.prog.info? 52).map (·.size) = some 1 := by kernel_rfl
set_option maxRecDepth 100000 in
set_option maxHeartbeats 8000000 in
theorem fatfn_any (T : Nat → Prop) (w : World) (x : Rq) (V : Nat → Value) (q : Qu) (h : IsCq T w x V q) (hf : FewC q) (cm cf cb : Nat) (m b0 : Int) (p0 : Value) (hc : FatC w cm cf cb (m, p0, b0)) (hne : cm ≠ cf ∧ cm ≠ cb ∧ cf ≠ cb) :
    Calls Tryd.prog 47 #[.pointer (some ⟨x.g, 0, none⟩), .pointer (some ⟨cm, 0, none⟩), .pointer (some ⟨cf, 0, none⟩), .pointer (some ⟨cb, 0, none⟩)] w fun e w' => e = .returned (.tuple #[]) ∧ (∃ o, IsFat q o ∧ FatC w' cm cf cb (fatStep q x.g o m p0 b0)) ∧ Only (fun k => k = cm ∨ k = cf ∨ k = cb) w w' := by
  have HLN := Shut.mk (show ∀ b, b < 16 → (q.fl b).pk.length ≤ 10000 from fun b hb => by have := hf.len b hb; omega)
  have HQ := Shut.mk h
  have HF := Shut.mk hf
  have HC := Shut.mk hc
  have HNE := Shut.mk hne
  clear h hf hc hne
  go_enter Tryd.func47, Tryd.ntmps47
  go_wp2_with (fail)
  refine (fat_any T w x V q HQ.out HF.out).mono ?_
  rintro e w1 ⟨⟨o, ho, rfl⟩, hB⟩
  have HO := Shut.mk ho
  have HB := Shut.mk hB
  have HQ1 := Shut.mk (HQ.out.quiet hB)
  have HC1 := Shut.mk (HC.out.quiet hB)
  have hcm : w1.cell? ⟨cm, 0, none⟩ = some (.int .i64 m) := by have := block_range HC1.out.m 0 _ rfl; simpa using this
  clear ho hB
  cases o with
  | none =>
    have HL0 := Shut.mk (fat_len0 HO.out)
    rw [show fatAt none = 0 from rfl, show fatV q none 0 = 0 from rfl]
    by_cases hm : m < 0
    · go_wp2_with (fail)
      refine (len_any T w1 x V q HQ1.out HLN.out).mono ?_
      rintro e wn ⟨rfl, rfl⟩
      rw [HL0.out]
      go_wp2
      go_end0
      exact ⟨rfl, ⟨none, HO.out, HC1.out⟩, Only.of_quiet HB.out⟩
    · go_wp2
      go_end0
      exact ⟨rfl, ⟨none, HO.out, HC1.out⟩, Only.of_quiet HB.out⟩
  | some i =>
    have HL1 := Shut.mk (fat_len1 HO.out)
    obtain ⟨y, hy⟩ : ∃ y, y = fatF q i := ⟨_, rfl⟩
    have HY := Shut.mk hy
    rw [show fatAt (some i) = ((i : Nat) : Int) from rfl, show fatV q (some i) 0 = y from hy.symm]
    clear hy
    by_cases hm : m < y
    · have HST := Shut.mk (show fatStep q x.g (some i) m p0 b0 = (y, .pointer (some ⟨x.g, 0, none⟩), ((i : Nat) : Int)) by unfold fatStep; dsimp only; rw [← HY.out, if_pos hm])
      have hlt := HL1.out
      have hll := lenTo_le HLN.out 16 (Nat.le_refl _)
      obtain ⟨n, hn⟩ : ∃ n, n = lenTo q 16 := ⟨_, rfl⟩
      have HN := Shut.mk hn
      rw [← hn] at hlt hll
      have hlti : (0 : Int) < (n : Int) := by omega
      clear hn
      have HF2 := Shut.mk (show (w1.setRow cf ([] ++ [Value.pointer (some ⟨x.g, 0, none⟩)] ++ []).toArray).heap[cb]? = some (.cells ([] ++ [Value.int .i64 b0] ++ []).toArray 3 (0, 0)) from (setRow_other w1 cf cb _ (fun e => HNE.out.2.2 e.symm)).trans HC1.out.b)
      have HM2 := Shut.mk (show (w1.setRow cf ([] ++ [Value.pointer (some ⟨x.g, 0, none⟩)] ++ []).toArray).heap[cm]? = some (.cells ([] ++ [Value.int .i64 m] ++ []).toArray 3 (0, 0)) from (setRow_other w1 cf cm _ (fun e => HNE.out.1 e)).trans HC1.out.m)
      have HP2 := Shut.mk (setRow_heap w1 cf _ ([] ++ [Value.pointer (some ⟨x.g, 0, none⟩)] ++ []).toArray _ (0, 0) HC1.out.f)
      have HOA := Shut.mk (only_setRow w1 cf ([] ++ [Value.pointer (some ⟨x.g, 0, none⟩)] ++ []).toArray)
      have HC1F := Shut.mk (show w1.heap[cf]? = some (.cells ([] ++ [p0] ++ []).toArray 52 (0, 0)) from HC1.out.f)
      obtain ⟨w2, hw2⟩ : ∃ w2, w2 = w1.setRow cf ([] ++ [Value.pointer (some ⟨x.g, 0, none⟩)] ++ []).toArray := ⟨_, rfl⟩
      rw [← hw2] at HF2 HM2 HP2 HOA
      have HW2 := Shut.mk hw2
      clear hw2
      have HM3 := Shut.mk (show (w2.setRow cb ([] ++ [Value.int .i64 (i : Nat)] ++ []).toArray).heap[cm]? = some (.cells ([] ++ [Value.int .i64 m] ++ []).toArray 3 (0, 0)) from (setRow_other w2 cb cm _ (fun e => HNE.out.2.1 e)).trans HM2.out)
      have HP3 := Shut.mk (show (w2.setRow cb ([] ++ [Value.int .i64 (i : Nat)] ++ []).toArray).heap[cf]? = _ from (setRow_other w2 cb cf _ (fun e => HNE.out.2.2 e)).trans HP2.out)
      have HF3 := Shut.mk (setRow_heap w2 cb _ ([] ++ [Value.int .i64 (i : Nat)] ++ []).toArray _ (0, 0) HF2.out)
      have HOB := Shut.mk (only_setRow w2 cb ([] ++ [Value.int .i64 (i : Nat)] ++ []).toArray)
      obtain ⟨w3, hw3⟩ : ∃ w3, w3 = w2.setRow cb ([] ++ [Value.int .i64 (i : Nat)] ++ []).toArray := ⟨_, rfl⟩
      rw [← hw3] at HM3 HP3 HF3 HOB
      have HW3 := Shut.mk hw3
      clear hw3
      have HM4 := Shut.mk (setRow_heap w3 cm _ ([] ++ [Value.int .i64 y] ++ []).toArray _ (0, 0) HM3.out)
      have HP4 := Shut.mk (show (w3.setRow cm ([] ++ [Value.int .i64 y] ++ []).toArray).heap[cf]? = _ from (setRow_other w3 cm cf _ (fun e => HNE.out.1 e.symm)).trans HP3.out)
      have HF4 := Shut.mk (show (w3.setRow cm ([] ++ [Value.int .i64 y] ++ []).toArray).heap[cb]? = _ from (setRow_other w3 cm cb _ (fun e => HNE.out.2.1 e.symm)).trans HF3.out)
      have HOC := Shut.mk (only_setRow w3 cm ([] ++ [Value.int .i64 y] ++ []).toArray)
      obtain ⟨w4, hw4⟩ : ∃ w4, w4 = w3.setRow cm ([] ++ [Value.int .i64 y] ++ []).toArray := ⟨_, rfl⟩
      rw [← hw4] at HM4 HP4 HF4 HOC
      have HW4 := Shut.mk hw4
      clear hw4
      go_wp2_with (fail)
      refine (len_any T w1 x V q HQ1.out HLN.out).mono ?_
      rintro e wn ⟨rfl, rfl⟩
      rw [← HN.out]
      clear hcm
      go_wp2_with (first
        | (refine wpList_store_fld rfl 52 (.tmp 2) (.tmp 20) rfl cf 0 0 (Value.pointer (some ⟨x.g, 0, none⟩)) rfl rfl rfl 52 [] [p0] [Value.pointer (some ⟨x.g, 0, none⟩)] [] HC1F.out rfl size1Q (by show 0 < 1; omega) rfl ?_
           rw [show World.setRow w1 cf _ = w2 from HW2.out.symm])
        | (refine wpList_store_fld rfl 3 (.tmp 3) (.tmp 21) rfl cb 0 0 (Value.int .i64 (i : Nat)) rfl rfl rfl 3 [] [Value.int .i64 b0] [Value.int .i64 (i : Nat)] [] HF2.out rfl size1i (by show 0 < 1; omega) rfl ?_
           rw [show World.setRow w2 cb _ = w3 from HW3.out.symm])
        | (refine wpList_store_fld rfl 3 (.tmp 1) (.tmp 22) rfl cm 0 0 (Value.int .i64 y) rfl rfl rfl 3 [] [Value.int .i64 m] [Value.int .i64 y] [] HM3.out rfl size1i (by show 0 < 1; omega) rfl ?_
           rw [show World.setRow w3 cm _ = w4 from HW4.out.symm]))
      go_end0
      exact ⟨rfl, ⟨some i, HO.out, by rw [HST.out]; exact ⟨HM4.out, HP4.out, HF4.out⟩⟩, (((Only.of_quiet HB.out).trans HOA.out fun _ _ e => .inr (.inl e)).trans HOB.out fun _ _ e => .inr (.inr e)).trans HOC.out fun _ _ e => .inl e⟩
    · have HST := Shut.mk (show fatStep q x.g (some i) m p0 b0 = (m, p0, b0) by unfold fatStep; dsimp only; rw [← HY.out, if_neg hm])
      go_wp2
      go_end0
      exact ⟨rfl, ⟨some i, HO.out, by rw [HST.out]; exact HC1.out⟩, Only.of_quiet HB.out⟩
end Go.Proofs.YtaibopaagjodoaaDoor
