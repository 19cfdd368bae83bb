/-
  MATHS OF WHAT GOES TOGETHER: whether frames fit; how many are chosen; fewer fit where more do. No program is named.
-/
import Derived.Test.YtlkoleannlpflaaDoorAirM
import Derived.Test.YtlkoleannlpflaaDoorAmpM
namespace Go.Proofs.YtlkoleannlpflaaDoor
set_option linter.unusedVariables false
set_option linter.unusedSimpArgs false

structure Lm where
  c : Int
  b : Int
  t : Int
def lenOk (x : Int) : Bool := decide (1 ≤ x) && decide (x ≤ 4095)
def fitsB (r : Rt) (m : Lm) (ls : List Int) : Bool :=
  validR r && !ls.isEmpty && decide ((ls.length : Int) ≤ m.c) && decide (ls.length ≤ 64) && ls.all lenOk && decide (aggLen ls ≤ m.b) && decide (aggLen ls ≤ 65535) && decide (ppduR r (aggLen ls) ≤ m.t) && decide (ppduR r (aggLen ls) ≤ 54840)
structure Fits (r : Rt) (m : Lm) (ls : List Int) : Prop where
  ok : validR r = true
  some : ls ≠ []
  c : (ls.length : Int) ≤ m.c
  w : ls.length ≤ 64
  len : ∀ x ∈ ls, 1 ≤ x ∧ x ≤ 4095
  b : aggLen ls ≤ m.b
  a : aggLen ls ≤ 65535
  t : ppduR r (aggLen ls) ≤ m.t
  air : ppduR r (aggLen ls) ≤ 54840
theorem lenOk_iff {x : Int} : lenOk x = true ↔ 1 ≤ x ∧ x ≤ 4095 := by unfold lenOk; simp
theorem fits_iff {r : Rt} {m : Lm} {ls : List Int} : fitsB r m ls = true ↔ Fits r m ls := by
  unfold fitsB
  simp only [Bool.and_eq_true, decide_eq_true_eq, Bool.not_eq_true', List.isEmpty_eq_false_iff, List.all_eq_true, lenOk_iff]
  constructor
  · rintro ⟨⟨⟨⟨⟨⟨⟨⟨h1, h2⟩, h3⟩, h4⟩, h5⟩, h6⟩, h7⟩, h8⟩, h9⟩
    exact ⟨h1, h2, h3, h4, h5, h6, h7, h8, h9⟩
  · rintro ⟨h1, h2, h3, h4, h5, h6, h7, h8, h9⟩
    exact ⟨⟨⟨⟨⟨⟨⟨⟨h1, h2⟩, h3⟩, h4⟩, h5⟩, h6⟩, h7⟩, h8⟩, h9⟩
theorem aggLen_nonneg (ls : List Int) : 0 ≤ aggLen ls := by
  rw [← List.reverse_reverse ls]
  generalize ls.reverse = l
  induction l with
  | nil => exact Int.le_refl _
  | cons x r ih => rw [List.reverse_cons, aggLen_snoc]; omega
/-- fewer are no longer. -/
theorem aggLen_append (ls : List Int) : ∀ rs : List Int, aggLen ls ≤ aggLen (ls ++ rs) := by
  intro rs
  rw [← List.reverse_reverse rs]
  generalize rs.reverse = l
  induction l with
  | nil => simp
  | cons x r ih => rw [List.reverse_cons, ← List.append_assoc, aggLen_snoc]; have := aggLen_nonneg (ls ++ r.reverse); omega
theorem aggLen_take (ls : List Int) (k : Nat) : aggLen (ls.take k) ≤ aggLen ls := by
  conv => rhs; rw [← List.take_append_drop k ls]
  exact aggLen_append _ _
theorem fits_take {r : Rt} {m : Lm} {ls : List Int} {k : Nat} (h : Fits r m ls) (hk : 1 ≤ k) : Fits r m (ls.take k) := by
  have ha := aggLen_take ls k
  have h0 := aggLen_nonneg (ls.take k)
  have hp := ppdu_mono (r := r) h0 ha (by have := h.a; omega)
  have hl : (ls.take k).length ≤ ls.length := by rw [List.length_take]; omega
  refine ⟨h.ok, ?_, by have := h.c; omega, by have := h.w; omega, fun x hx => h.len x (List.mem_of_mem_take hx), by have := h.b; omega, by have := h.a; omega, by have := h.t; omega, by have := h.air; omega⟩
  obtain ⟨x, r', e⟩ := List.exists_cons_of_ne_nil h.some
  obtain ⟨k', rfl⟩ : ∃ k', k = k' + 1 := ⟨k - 1, by omega⟩
  rw [e]; simp
theorem fits_up {r : Rt} {m g : Lm} {ls : List Int} (h : Fits r m ls) (hc : m.c ≤ g.c) (hb : m.b ≤ g.b) (ht : m.t ≤ g.t) : Fits r g ls :=
  ⟨h.ok, h.some, by have := h.c; omega, h.w, h.len, by have := h.b; omega, h.a, by have := h.t; omega, h.air⟩

/-! ### the longest beginning of which each beginning serves -/
def IsCh (f : Nat → Bool) (n k : Nat) : Prop := k ≤ n ∧ (∀ j, 1 ≤ j → j ≤ k → f j = true) ∧ (k = n ∨ f (k + 1) = false)
theorem ch_one {f : Nat → Bool} {n i j : Nat} (h1 : IsCh f n i) (h2 : IsCh f n j) : i = j := by
  have le : ∀ {a b : Nat}, IsCh f n a → IsCh f n b → a ≤ b := by
    intro a b ha hb
    rcases Nat.lt_or_ge b a with h | h
    · rcases hb.2.2 with e | e
      · have := ha.1; omega
      · rw [ha.2.1 (b + 1) (by omega) (by omega)] at e; cases e
    · exact h
  exact Nat.le_antisymm (le h1 h2) (le h2 h1)
/-- as a function (named, never to be reckoned). -/
def chN (f : Nat → Bool) : Nat → Nat → Nat
  | 0, k => k
  | d + 1, k => if f (k + 1) = true then chN f d (k + 1) else k
theorem chN_is (f : Nat → Bool) : ∀ d k, (∀ j, 1 ≤ j → j ≤ k → f j = true) → IsCh f (k + d) (chN f d k)
  | 0, k, h => ⟨Nat.le_refl _, h, .inl rfl⟩
  | d + 1, k, h => by
    unfold chN
    split
    · rename_i hf
      have := chN_is f d (k + 1) fun j h1 h2 => by
        rcases (by omega : j ≤ k ∨ j = k + 1) with e | e
        · exact h j h1 e
        · rw [e]; exact hf
      rw [show k + (d + 1) = k + 1 + d by omega]
      exact this
    · rename_i hf
      exact ⟨by omega, h, .inr (by simpa using hf)⟩
def manyB (r : Rt) (m : Lm) (ls : List Int) : Nat := chN (fun k => fitsB r m (ls.take k)) ls.length 0
theorem many_is (r : Rt) (m : Lm) (ls : List Int) : IsCh (fun k => fitsB r m (ls.take k)) ls.length (manyB r m ls) := by
  have := chN_is (fun k => fitsB r m (ls.take k)) ls.length 0 fun j h1 h2 => by omega
  rw [Nat.zero_add] at this
  exact this
theorem many_one {r : Rt} {m : Lm} {ls : List Int} {k : Nat} (h : IsCh (fun k => fitsB r m (ls.take k)) ls.length k) : manyB r m ls = k := ch_one (many_is r m ls) h
/-- by the greatest alone: what fits fits with fewer. -/
theorem many_by {r : Rt} {m : Lm} {ls : List Int} {k : Nat} (hk : k ≤ ls.length) (h1 : 1 ≤ k → fitsB r m (ls.take k) = true) (h2 : k = ls.length ∨ fitsB r m (ls.take (k + 1)) = false) : manyB r m ls = k := by
  refine many_one ⟨hk, fun j j1 j2 => ?_, h2⟩
  have h := fits_iff.1 (h1 (by omega))
  have := fits_take (k := j) h j1
  rw [List.take_take, show min j k = j by omega] at this
  exact fits_iff.2 this
def aloneB (r : Rt) (ls : List Int) : Bool := validR r && !ls.isEmpty && lenOk (ls.headD 0)
def chooseB (r : Rt) (m : Lm) (ls : List Int) : Nat × Bool := if 0 < manyB r m ls then (manyB r m ls, true) else if aloneB r ls = true then (1, false) else (0, false)
theorem choose_many {r : Rt} {m : Lm} {ls : List Int} (h : 0 < manyB r m ls) : chooseB r m ls = (manyB r m ls, true) := by unfold chooseB; rw [if_pos h]
theorem choose_alone {r : Rt} {m : Lm} {ls : List Int} (h : manyB r m ls = 0) (ha : aloneB r ls = true) : chooseB r m ls = (1, false) := by unfold chooseB; rw [if_neg (by omega), if_pos ha]
theorem choose_none {r : Rt} {m : Lm} {ls : List Int} (h : manyB r m ls = 0) (ha : aloneB r ls = false) : chooseB r m ls = (0, false) := by unfold chooseB; rw [if_neg (by omega), if_neg (by simp [ha])]
/-- none fit where the first alone does not. -/
theorem many_zero {r : Rt} {m : Lm} {ls : List Int} (h : fitsB r m (ls.take 1) = false) : manyB r m ls = 0 :=
  many_one ⟨Nat.zero_le _, fun j h1 h2 => by omega, .inr h⟩
/-- BuildMost: what is chosen fits, one more does not; greater limits never let go fewer. -/
theorem most_fit {r : Rt} {m : Lm} {ls : List Int} {k : Nat} (h1 : 1 ≤ k) (hk : k ≤ manyB r m ls) : fitsB r m (ls.take k) = true := (many_is r m ls).2.1 k h1 hk
theorem most_next {r : Rt} {m : Lm} {ls : List Int} (h : manyB r m ls < ls.length) : fitsB r m (ls.take (manyB r m ls + 1)) = false := by
  rcases (many_is r m ls).2.2 with e | e
  · omega
  · exact e
theorem many_up {r : Rt} {m g : Lm} {ls : List Int} (hc : m.c ≤ g.c) (hb : m.b ≤ g.b) (ht : m.t ≤ g.t) : manyB r m ls ≤ manyB r g ls := by
  rcases Nat.lt_or_ge (manyB r g ls) (manyB r m ls) with h | h
  · have h1 := (many_is r m ls).1
    have h2 := most_next (r := r) (m := g) (ls := ls) (by omega)
    have h3 := fits_iff.1 (most_fit (r := r) (m := m) (ls := ls) (k := manyB r g ls + 1) (by omega) (by omega))
    rw [fits_iff.2 (fits_up h3 hc hb ht)] at h2
    cases h2
  · exact h
theorem many_le {r : Rt} {m : Lm} {ls : List Int} : manyB r m ls ≤ ls.length := (many_is r m ls).1
/-! ### alone -/
theorem agg_one {s : Int} (h : 1 ≤ s) : aggLen [s] = 4 + s := by
  have := aggLen_snoc [] s
  rw [List.nil_append] at this
  rw [this]
  show ((0 : Int) + 3) / 4 * 4 + 4 + max s 0 = 4 + s
  omega
theorem alone_ticks {r : Rt} {m : Lm} {s : Int} {ls : List Int} (hs : 1 ≤ s) (ht : m.t < ppduR r (aggLen [s])) : fitsB r m ((s :: ls).take 1) = false := by
  rw [Bool.eq_false_iff]
  intro h
  have := (fits_iff.1 h).t
  simp only [List.take_succ_cons, List.take_zero] at this
  omega
theorem alone_bytes {r : Rt} {m : Lm} {s : Int} {ls : List Int} (hs : 1 ≤ s) (hb : m.b < 4 + s) : fitsB r m ((s :: ls).take 1) = false := by
  rw [Bool.eq_false_iff]
  intro h
  have := (fits_iff.1 h).b
  simp only [List.take_succ_cons, List.take_zero] at this
  rw [agg_one hs] at this
  omega
theorem alone_count {r : Rt} {m : Lm} {s : Int} {ls : List Int} (hc : m.c < 1) : fitsB r m ((s :: ls).take 1) = false := by
  rw [Bool.eq_false_iff]
  intro h
  have := (fits_iff.1 h).c
  simp at this
  omega
theorem alone_bad {r : Rt} {m : Lm} {ls : List Int} (hv : validR r = false) : fitsB r m ls = false := by unfold fitsB; rw [hv]; rfl
theorem alone_zero {r : Rt} {m : Lm} {ls : List Int} : fitsB r m ((0 :: ls).take 1) = false := by
  rw [Bool.eq_false_iff]
  intro h
  have := (fits_iff.1 h).len 0 (by simp)
  omega
/-! ### of one length -/
theorem agg_same {s : Int} (h : 1 ≤ s) : ∀ k : Nat, aggLen (List.replicate (k + 1) s) = (k : Int) * ((4 + s + 3) / 4 * 4) + 4 + s
  | 0 => by show aggLen [s] = _; rw [agg_one h]; simp
  | k + 1 => by
    rw [List.replicate_succ', aggLen_snoc, agg_same h k]
    have e : ((k + 1 : Nat) : Int) * ((4 + s + 3) / 4 * 4) = (k : Int) * ((4 + s + 3) / 4 * 4) + (4 + s + 3) / 4 * 4 := by
      rw [show ((k + 1 : Nat) : Int) = (k : Int) + 1 by omega, Int.add_mul, Int.one_mul]
    rw [e]
    have e2 : (k : Int) * ((4 + s + 3) / 4 * 4) = (k : Int) * ((4 + s + 3) / 4) * 4 := by rw [Int.mul_assoc]
    rw [e2]
    generalize (k : Int) * ((4 + s + 3) / 4) = q
    omega
/-- how many of one length: as a loop finds it. -/
def sameOk (r : Rt) (m : Lm) (s : Int) (k : Nat) : Bool := decide ((k : Int) ≤ m.c) && decide (((k : Int) - 1) * ((4 + s + 3) / 4 * 4) + 4 + s ≤ m.b) && decide (ppduR r (((k : Int) - 1) * ((4 + s + 3) / 4 * 4) + 4 + s) ≤ m.t)
theorem same_fits {r : Rt} {m : Lm} {s : Int} {k : Nat} (hv : validR r = true) (h1 : 1 ≤ s) (h2 : s ≤ 4095) (hb : m.b ≤ 65535) (ht : m.t ≤ 54840) (hk : 1 ≤ k) (hk2 : k ≤ 64) :
    fitsB r m ((List.replicate 64 s).take k) = sameOk r m s k := by
  have e : (List.replicate 64 s).take k = List.replicate k s := by rw [List.take_replicate]; congr 1; omega
  obtain ⟨j, rfl⟩ : ∃ j, k = j + 1 := ⟨k - 1, by omega⟩
  rw [e]
  have ea : aggLen (List.replicate (j + 1) s) = ((j + 1 : Nat) : Int) * ((4 + s + 3) / 4 * 4) - (4 + s + 3) / 4 * 4 + 4 + s := by
    rw [agg_same h1 j, show ((j + 1 : Nat) : Int) = (j : Int) + 1 by omega, Int.add_mul, Int.one_mul]; omega
  have eb : (((j + 1 : Nat) : Int) - 1) * ((4 + s + 3) / 4 * 4) + 4 + s = aggLen (List.replicate (j + 1) s) := by
    rw [agg_same h1 j, show ((j + 1 : Nat) : Int) - 1 = (j : Int) by omega]
  unfold sameOk
  rw [eb]
  rw [Bool.eq_iff_iff, fits_iff]
  simp only [Bool.and_eq_true, decide_eq_true_eq]
  constructor
  · intro h
    exact ⟨⟨by have := h.c; rw [List.length_replicate] at this; exact this, h.b⟩, h.t⟩
  · rintro ⟨⟨a1, a2⟩, a3⟩
    exact ⟨hv, by simp [List.replicate_succ], by rw [List.length_replicate]; exact a1, by rw [List.length_replicate]; exact hk2, fun x hx => by rw [List.eq_of_mem_replicate hx]; exact ⟨h1, h2⟩, a2, by omega, a3, by omega⟩
/-- 'want' of the law behind k rounds. -/
def wantN (f : Nat → Bool) : Nat → Nat
  | 0 => 0
  | k + 1 => if f (k + 1) = true ∧ wantN f k = k then k + 1 else wantN f k
theorem want_is (f : Nat → Bool) : ∀ n, IsCh f n (wantN f n)
  | 0 => ⟨Nat.le_refl _, fun j h1 h2 => by have : j ≤ 0 := h2; omega, .inl rfl⟩
  | n + 1 => by
    obtain ⟨a, b, c⟩ := want_is f n
    unfold wantN
    split
    · rename_i h
      refine ⟨Nat.le_refl _, fun j h1 h2 => ?_, .inl rfl⟩
      rcases (by omega : j ≤ n ∨ j = n + 1) with e | e
      · exact b j h1 (by omega)
      · rw [e]; exact h.1
    · rename_i h
      refine ⟨by omega, b, ?_⟩
      rcases c with c | c
      · refine .inr ?_
        rw [c]
        cases hf : f (n + 1)
        · rfl
        · exact absurd ⟨hf, c⟩ h
      · exact .inr c
end Go.Proofs.YtlkoleannlpflaaDoor
